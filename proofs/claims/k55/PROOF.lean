import PyProof.Rows.All
import Wide.All
import OpenK.AllK
import Wide.FinOn
import Lean
import PyProof.EqAt
import PyProof.EqKinds
import PyProof.TupleCall
import PyProof.ZipIter
import PyProof.Draws
import PyProof.TupleIter
import PySem.Value
import PyProof.NeKinds
import PyProof.ExcClass2
import PyProof.StationsW
import OpenK.KOwn
import KE.KIsAll
import PyProof.RulesAs
import PyProof.NsDelKeeps
import PyProof.PassesOwn
import PyProof.ExcArgsOwn
import PyProof.IsiH_list
import PyProof.EnumMake
import PyProof.EnumFor
import PyProof.WalksEnum
import PyProof.Rows.EnumRows
import PyProof.SumWalk
import PyProof.StrCalls
import PyProof.Rows.StrJoin2
import PyProof.WalkInts
import KE.KDictOf
import KE.KEqDict
import PyProof.EqLayable
import PyProof.P3Eq
import PyProof.MeetsIn
import PyProof.StrCalls6
import PyProof.StrLaws
import PyProof.StrLawsIn
import PyProof.StrLawsChain
import PyProof.MeetsStr2
import PyProof.StrOps2
import PyProof.CallStr
import KE.KIntText
import KE.KRevIter
import PyProof.Rows.StrInSeq3
import PyProof.Rows.SeqMore2
import KE.KNestM
import PySem.Challenge.RW_keeper_k55_texts_too_great
set_option Elab.async false
set_option linter.all false
set_option maxRecDepth 100000
noncomputable section
section
namespace L2
open PySem PySem.Spec PyProof.Rows
def HB (base:Heap) (A:Around):Prop:=A.handled=none∨∃ a oe vs,A.handled=some (.ref a)∧base.get? a=some oe∧oe.data=.fields vs∧vs[2]?=some .none
def HBp (base:Heap) (pn:List (Addr×Obj)) (A:Around):Prop:=A.handled=none∨∃ a oe vs,A.handled=some (.ref a)∧(base.get? a=some oe∨(a,oe)∈pn)∧oe.data=.fields vs∧vs[2]?=some .none
theorem HB.toP {base:Heap} {pn:List (Addr×Obj)} {A:Around} (h:HB base A):HBp base pn A:=by
  rcases h with h | ⟨a,oe,vs,e1,e2,e3⟩
  · exact .inl h
  · exact .inr ⟨a,oe,vs,e1,.inl e2,e3⟩
theorem ent_unchain : entryFor table "proto.unchain" = some Builtin.«proto.unchain» := entryFor_of_tree (by kernel_rfl)
section
variable {prog:Program} {w:World} {A:Around} {E:Value→Shared→Prop} {s:Shared} {base:Heap}
theorem HB.mono {h h':Heap} (hb:HB h A) (hk:∀ a o,A.handled=some (.ref a)→h.get? a=some o→h'.get? a=some o):HB h' A:=by
  rcases hb with hb | ⟨a,oe,vs,e1,e2,e3⟩
  · exact .inl hb
  · exact .inr ⟨a,oe,vs,e1,hk a oe e1 e2,e3⟩
theorem un_chain {n a:Addr} {oe:Obj} {vs:Array Value} {Q:Value→Shared→Prop} (he:s.heap.get? a=some oe) (hd:oe.data=.fields vs) (h2:vs[2]?=some .none) (h:Q .none s) :
    wpAny (model prog w) A (runValue (.builtin "proto.unchain" ⟨[.ref n,.ref a,.ref a,.bool false],[]⟩)) Q E s:=by
  refine wpAny_runValue (codeAny_builtin ent_unchain ?_)
  show wpAny _ _ (field (.ref a) 2 >>= _) _ _ s
  refine wpAny_bind (wpAny_field he hd h2 ?_)
  rw [if_pos (show (Value.none==Value.none)=true by rfl)]
  exact wpAny_pure h
theorem stop_made {α:Type} {Q:α→Shared→Prop} (hb:HB s.heap A)
    (hE:∀ h' e,(∀ b o,s.heap.get? b=some o→h'.get? b=some o)→(∃ o,h'.get? e=some o∧o.cls=.type "StopIteration")→E (.ref e) { s with heap:=h' }) :
    wpAny (model prog w) A (newExc (.type "StopIteration") [] >>= fun e=>(raiseNew e:Sem α)) Q E s:=by
  refine wpAny_bind ?_
  simp only [newExc,newTuple]
  refine wpAny_bind (wpAny_newObj_type ?_ (by size_fits))
  refine wpAny_bind (m:=firstArgMember _ _) (wpAny_of_eq (a:=Value.none) (by first | rfl | (simp only [firstArgMember]; rfl)) ?_)
  refine wpAny_newObj_type ?_ (by size_fits)
  simp only [raiseNew]
  refine wpAny_bind (wpAny_handled ?_)
  rcases hb with hb | ⟨a,oe,vs,hb,e1,e2,e3⟩
  · rw [hb]
    refine wpAny_bind (wpAny_pure (wpAny_throw (hE _ _ (fun b o e=>Heap.get?_push_of_some _ (Heap.get?_push_of_some _ e)) ⟨_,Heap.get?_push_size _ rfl,rfl⟩)))
  · rw [hb]
    have ea:=e1
    have lt:=Heap.lt_size ea
    have ne:a≠(s.heap.push { cls:=.type "tuple",data:=.seq #[] }).objs.size:=by
      rw [Heap.size_push]
      exact Nat.ne_of_lt (Nat.lt_succ_of_lt lt)
    dsimp only
    rw [if_pos (by simpa using ne)]
    refine wpAny_bind (wpAny_holding (un_chain (Heap.get?_push_of_some _ (Heap.get?_push_of_some _ ea)) e2 e3 ?_))
    refine wpAny_bind ?_
    show wpAny (model prog w) A (setField (.ref _) 2 (.ref a)) _ _ _
    refine wpAny_setField (Heap.get?_push_size _ rfl) rfl (by simp; omega) (wpAny_throw (hE _ _ (fun b o e=>?_) ⟨_,Heap.get?_update_self _ (Heap.get?_push_size _ rfl) (Obj.isFreed_of_fields (Obj.data_mapFields rfl _)),Obj.cls_mapFields _ _⟩))
    rw [Heap.get?_update_other _ _ ?_]
    · exact Heap.get?_push_of_some _ (Heap.get?_push_of_some _ e)
    · have:=Heap.lt_size e
      intro z
      rw [← z,Heap.size_push] at this
      exact Nat.not_succ_lt_self this
theorem is_stop {Q:Bool→Shared→Prop} {h':Heap} {e:Addr} (he:∃ o,h'.get? e=some o∧o.cls=.type "StopIteration") (h:Q true { s with heap:=h' }):wpAny (model prog w) A (isInstance (.ref e) (.type "StopIteration")) Q E { s with heap:=h' }:=by
  obtain ⟨o,ho,hc⟩:=he
  exact wpAny_isInstance (T := "StopIteration") (b:=true) ⟨o,ho,hc⟩ isSubtype_stop h
theorem HB.upd {it:Addr} {f:Obj→Obj} (hb:HB s.heap A) (na:∀ a,A.handled=some (.ref a)→a≠it):HB (s.heap.update it f) A:=hb.mono fun a o e1 e2=>(Heap.get?_update_other _ _ (Ne.symm (na a e1))).trans e2
theorem ext_upd {it:Addr} {f:Obj→Obj} {h':Heap} (k:∀ b o,(s.heap.update it f).get? b=some o→h'.get? b=some o):Heap.ExtBut it s.heap h':=fun b o hb e=>k b o ((Heap.get?_update_other _ _ (Ne.symm hb)).trans e)
theorem next_list_end {it l:Addr} {i:Nat} {items:Array Value} {Q:Option Value→Shared→Prop} (hb:HB s.heap A) (na:∀ a,A.handled=some (.ref a)→a≠it) (hit:s.heap.IsListIter it l i) (hl:s.heap.IsList l items) (hx:items[i]?=none)
    (hQ:∀ h',Heap.ExtBut it s.heap h'→Q none { s with heap:=h' }):wpAny (model prog w) A (pyNext (.ref it)) Q E s:=by
  obtain ⟨o,ho,hc,hd⟩:=id hit
  obtain ⟨ol,hol,_,nl,hdl⟩:=hl
  unfold pyNext
  refine wpAny_bind (wpAny_attempt (wpAny_callSpecial?_slot (name:=Str.ofString "__next__") hit.typeIs slot_listiter_next (wpAny_call_entry slot_listiter_next hit.typeIs entry_listiter_next ?_ (args_listiter_next _))))
  show wpAny (model prog w) _ (field (.ref it) 0 >>= _) _ _ s
  refine wpAny_bind (wpAny_field ho hd (x:=.ref l) rfl ?_)
  show wpAny (model prog w) _ (if (Value.ref l==Value.none)=true then _ else _) _ _ s
  rw [if_neg (show ¬ (Value.ref l==Value.none)=true from Bool.false_ne_true)]
  show wpAny (model prog w) _ (field (.ref it) 1 >>= _) _ _ s
  refine wpAny_bind (wpAny_field ho hd (x:=.int i 0) rfl ?_)
  show wpAny (model prog w) _ (seqItems? (.ref l) >>= _) _ _ s
  refine wpAny_bind (wpAny_seqItems hol hdl ?_)
  simp only [Int.toNat_natCast,hx]
  refine wpAny_bind (wpAny_rule (wpAny_bind (wpAny_setField ho hd (by simp) ?_)))
  exact stop_made (A:=A.in1) (hb.upd na) fun h' e k he=>wpAny_bind (is_stop he (wpAny_pure (hQ h' (ext_upd k))))
theorem next_tuple_end {it l:Addr} {i:Nat} {items:Array Value} {Q:Option Value→Shared→Prop} (hb:HB s.heap A) (na:∀ a,A.handled=some (.ref a)→a≠it) (hit:s.heap.IsTupleIter it l i) (hl:s.heap.IsTuple l items) (hx:items[i]?=none)
    (hQ:∀ h',Heap.ExtBut it s.heap h'→Q none { s with heap:=h' }):wpAny (model prog w) A (pyNext (.ref it)) Q E s:=by
  obtain ⟨o,ho,hc,hd⟩:=id hit
  obtain ⟨ol,hol,_,nl,hdl⟩:=hl
  unfold pyNext
  refine wpAny_bind (wpAny_attempt (wpAny_callSpecial?_slot (name:=Str.ofString "__next__") hit.typeIs F.slot_tuple_iterator_next (wpAny_call_entry F.slot_tuple_iterator_next hit.typeIs F.entry_tuple_iterator_next ?_ (F.args_tuple_iterator_next_1 _))))
  show wpAny (model prog w) _ (field (.ref it) 0 >>= _) _ _ s
  refine wpAny_bind (wpAny_field ho hd (x:=.ref l) rfl ?_)
  show wpAny (model prog w) _ (if (Value.ref l==Value.none)=true then _ else _) _ _ s
  rw [if_neg (show ¬ (Value.ref l==Value.none)=true from Bool.false_ne_true)]
  show wpAny (model prog w) _ (field (.ref it) 1 >>= _) _ _ s
  refine wpAny_bind (wpAny_field ho hd (x:=.int i 0) rfl ?_)
  show wpAny (model prog w) _ (seqItems? (.ref l) >>= _) _ _ s
  refine wpAny_bind (wpAny_seqItems hol hdl ?_)
  simp only [Int.toNat_natCast,hx]
  refine wpAny_bind (wpAny_rule (wpAny_bind (wpAny_setField ho hd (by simp) ?_)))
  exact stop_made (A:=A.in1) (hb.upd na) fun h' e k he=>wpAny_bind (is_stop he (wpAny_pure (hQ h' (ext_upd k))))
theorem next_range_end {it:Addr} {x left step:Int} {Q:Option Value→Shared→Prop} (hb:HB s.heap A) (hit:IsRangeIter s.heap it x left step) (hleft:left≤0)
    (hQ:∀ h',Heap.ExtBut it s.heap h'→Q none { s with heap:=h' }):wpAny (model prog w) A (pyNext (.ref it)) Q E s:=by
  have hT:s.TypeIs (.ref it) "range_iterator" := ⟨_,hit,rfl⟩
  unfold pyNext
  refine wpAny_bind (wpAny_attempt (wpAny_callSpecial?_slot (name:=Str.ofString "__next__") hT F.slot_range_iterator_next (wpAny_call_entry F.slot_range_iterator_next hT F.entry_range_iterator_next ?_ (F.args_range_iterator_next_1 _))))
  show wpAny (model prog w) _ (field (.ref it) 0 >>= _) _ _ s
  refine wpAny_bind (wpAny_field hit rfl (x:=rawInt x) rfl ?_)
  show wpAny (model prog w) _ (field (.ref it) 1 >>= _) _ _ s
  refine wpAny_bind (wpAny_field hit rfl (x:=rawInt left) rfl ?_)
  show wpAny (model prog w) _ (field (.ref it) 2 >>= _) _ _ s
  refine wpAny_bind (wpAny_field hit rfl (x:=rawInt step) rfl ?_)
  show wpAny (model prog w) _ (if left≤0 then _ else _) _ _ s
  rw [if_pos hleft]
  refine wpAny_bind (wpAny_rule ?_)
  refine wpAny_bind ?_
  exact stop_made (A:=A.in1) hb fun h' e k he=>wpAny_bind (is_stop he (wpAny_pure (hQ h' fun b o _ eb=>k b o eb)))
theorem next_ascii_end {it:Addr} {x:Str} {t:Tok} {i:Nat} {Q:Option Value→Shared→Prop} (hb:HB s.heap A) (na:∀ a,A.handled=some (.ref a)→a≠it) (hit:s.heap.IsStrIter it "str_ascii_iterator" x t i) (hx:x.cps[i]?=none)
    (hQ:∀ h',Heap.ExtBut it s.heap h'→Q none { s with heap:=h' }):wpAny (model prog w) A (pyNext (.ref it)) Q E s:=by
  obtain ⟨o,ho,hc,hd⟩:=id hit
  unfold pyNext
  refine wpAny_bind (wpAny_attempt (wpAny_callSpecial?_slot (name:=Str.ofString "__next__") hit.typeIs F.slot_str_ascii_iterator_next (wpAny_call_entry F.slot_str_ascii_iterator_next hit.typeIs F.entry_str_ascii_iterator_next ?_ (F.args_str_ascii_iterator_next_1 _))))
  show wpAny (model prog w) _ (field (.ref it) 0 >>= _) _ _ s
  refine wpAny_bind (wpAny_field ho hd (x:=.str x t) rfl ?_)
  show wpAny (model prog w) _ (field (.ref it) 1 >>= _) _ _ s
  refine wpAny_bind (wpAny_field ho hd (x:=.int i 0) rfl ?_)
  simp only [Int.toNat_natCast,hx]
  refine wpAny_bind (wpAny_rule (wpAny_bind (wpAny_setField ho hd (by simp) (wpAny_bind (wpAny_letGo ?_)))))
  exact stop_made (A:=A.in1) (hb.upd na) fun h' e k he=>wpAny_bind (is_stop he (wpAny_pure (hQ h' (ext_upd k))))
theorem next_wide_end {it:Addr} {x:Str} {t:Tok} {i:Nat} {Q:Option Value→Shared→Prop} (hb:HB s.heap A) (na:∀ a,A.handled=some (.ref a)→a≠it) (hit:s.heap.IsStrIter it "str_iterator" x t i) (hx:x.cps[i]?=none)
    (hQ:∀ h',Heap.ExtBut it s.heap h'→Q none { s with heap:=h' }):wpAny (model prog w) A (pyNext (.ref it)) Q E s:=by
  obtain ⟨o,ho,hc,hd⟩:=id hit
  unfold pyNext
  refine wpAny_bind (wpAny_attempt (wpAny_callSpecial?_slot (name:=Str.ofString "__next__") hit.typeIs F.slot_str_iterator_next (wpAny_call_entry F.slot_str_iterator_next hit.typeIs F.entry_str_iterator_next ?_ (F.args_str_iterator_next_1 _))))
  show wpAny (model prog w) _ (field (.ref it) 0 >>= _) _ _ s
  refine wpAny_bind (wpAny_field ho hd (x:=.str x t) rfl ?_)
  show wpAny (model prog w) _ (field (.ref it) 1 >>= _) _ _ s
  refine wpAny_bind (wpAny_field ho hd (x:=.int i 0) rfl ?_)
  simp only [Int.toNat_natCast,hx]
  refine wpAny_bind (wpAny_rule (wpAny_bind (wpAny_setField ho hd (by simp) (wpAny_bind (wpAny_letGo ?_)))))
  exact stop_made (A:=A.in1) (hb.upd na) fun h' e k he=>wpAny_bind (is_stop he (wpAny_pure (hQ h' (ext_upd k))))
end
theorem range_item {prog:Program} {w:World} {A:Around} {s:Shared} {Q:Option Value→Shared→Prop} {E:Value→Shared→Prop} {I:Addr} {a c:Int} {n i:Nat} (hi:i<n) (st:IsRangeIter s.heap I (a+(i:Nat)*c) ((n:Int)-(i:Nat)) c)
    (hQ:∀ v h' tk,(∃ t,v=.int (a+i*c) t)→IsRangeIter h' I (a+((i+1:Nat):Int)*c) ((n:Int)-((i+1:Nat):Int)) c→(∀ b o,b∉[I]→s.heap.get? b=some o→h'.get? b=some o)→Q (some v) { s with heap:=h',toks:=tk }) :
    wpAny (model prog w) A (pyNext (.ref I)) Q E s:=by
  refine wpAny_pyNext_range_item st (by omega) fun h' hit' hs'=>hQ _ h' _ ⟨_,rfl⟩ ?_ fun b o hb e=>hs'.extBut b o (fun h=>hb (by simp [h])) e
  rw [show a+((i+1:Nat):Int)*c=a+(i:Int)*c+c by push_cast; rw [Int.add_mul,Int.one_mul,Int.add_assoc],show (n:Int)-((i+1:Nat):Int)=(n:Int)-(i:Int)-1 by push_cast; omega]
  exact hit'
def hAdr (A:Around):List Addr:=match A.handled with
  | some (.ref a)=>[a]
  | _=>[]
theorem mem_hAdr {A:Around} {d:Addr} (h:d∈hAdr A):A.handled=some (.ref d):=by
  unfold hAdr at h
  split at h
  · rename_i a e
    rw [List.mem_singleton.mp h]
    exact e
  · cases h
theorem HB.frame {A:Around} {h h':Heap} (hb:HB h A) (k:∀ b∈hAdr A,∀ o,h.get? b=some o→h'.get? b=some o):HB h' A:=hb.mono fun a o ea eo=>k a (by unfold hAdr; rw [ea]; simp) o eo
theorem walks_list {prog:Program} {w:World} {A:Around} (I ax:Addr) (hne:ax≠I) (items:Array Value) (na:∀ a,A.handled=some (.ref a)→a≠I) :
    Walks prog w A I (I::ax::hAdr A) [I] items.size (fun i v=>items[i]?=some v) (fun i h=>h.IsListIter I ax i∧h.IsList ax items∧HB h A) where
  sub:=fun b hb=>by simp at hb; simp [hb]
  frame:=fun _ _ _ st hk=>⟨st.1.at fun o e=>hk I (by simp) o e,st.2.1.at fun o e=>hk ax (by simp) o e,st.2.2.frame fun b hb=>hk b (by simp [hb])⟩
  item:=fun i s Q E hi st hQ=>by
    refine wpAny_pyNext_list_item st.1 st.2.1 (x:=items[i]) (by simp [hi]) fun h' hit' hs'=>?_
    exact hQ _ h' s.toks (by simp [hi]) ⟨hit',st.2.1.extBut hs'.extBut hne,st.2.2.mono fun a o ea eo=>hs'.extBut a o (na a ea) eo⟩ fun b o hb e=>hs'.extBut b o (fun h=>hb (by simp [h])) e
  done:=fun s Q E st hQ=>next_list_end st.2.2 na st.1 st.2.1 (by simp) fun h' he'=>hQ h' s.toks fun b o hb e=>he' b o (fun h=>hb (by simp [h])) e
  self:=fun _ _ _ _ st hQ=>wpAny_pyIter_listiter st.1 hQ
end L2
end
section
namespace L2
open PySem PySem.Spec PyProof.Rows
abbrev Key:=Sum Int Str
def keyIs:Key→Value→Bool
  | .inl k,v=>Value.isInt k v
  | .inr x,v=>Value.isStrOf x v
def keyH (w:World):Key→Int
  | .inl k=>hashInt k
  | .inr x=>hashStr w x
theorem keyIs_shape:∀ {k:Key} {v:Value},keyIs k v=true→(∃ i t,k=Sum.inl i∧v=Value.int i t)∨(∃ x t,k=Sum.inr x∧v=Value.str x t)
  | .inl i,v,h=>by
    obtain ⟨t,e⟩:=Value.isInt_shape (k:=i) (v:=v) h
    exact .inl ⟨i,t,rfl,e⟩
  | .inr x,v,h=>by
    obtain ⟨t,e⟩:=Value.isStrOf_shape (x:=x) (v:=v) h
    exact .inr ⟨x,t,rfl,e⟩
theorem key_ll (a b:Int):decide ((Sum.inl a:Key)=Sum.inl b)=(a==b):=by
  by_cases e:a=b
  · subst e; simp
  · have h:¬ (Sum.inl a:Key)=Sum.inl b:=fun q=>e (Sum.inl.inj q)
    rw [decide_eq_false h]
    exact (beq_eq_false_iff_ne.mpr e).symm
theorem key_rr (a b:Str):decide ((Sum.inr a:Key)=Sum.inr b)=decide (a=b):=by
  by_cases e:a=b
  · subst e; simp
  · have h:¬ (Sum.inr a:Key)=Sum.inr b:=fun q=>e (Sum.inr.inj q)
    rw [decide_eq_false h,decide_eq_false e]
theorem key_lr (a:Int) (b:Str):decide ((Sum.inl a:Key)=Sum.inr b)=false:=decide_eq_false (fun q=>nomatch q)
theorem key_rl (a:Str) (b:Int):decide ((Sum.inr a:Key)=Sum.inl b)=false:=decide_eq_false (fun q=>nomatch q)
def mixKind (prog : Program) (w : World) : PySem.KeyKind prog w Key where
  is:=keyIs
  hash:=keyH w
  inj := fun v a b ha hb => by
    rcases keyIs_shape ha with ⟨i,t,rfl,rfl⟩ | ⟨x,t,rfl,rfl⟩
    · rcases keyIs_shape hb with ⟨j,u,rfl,e⟩ | ⟨y,u,rfl,e⟩
      · injection e with e1 _; rw [e1]
      · exact nomatch e
    · rcases keyIs_shape hb with ⟨j,u,rfl,e⟩ | ⟨y,u,rfl,e⟩
      · exact nomatch e
      · injection e with e1 _; rw [e1]
  byValue:=fun k v h=>by
    rcases keyIs_shape h with ⟨i,t,rfl,rfl⟩ | ⟨x,t,rfl,rfl⟩ <;> rfl
  pyHash:=fun hv h=>by
    rcases keyIs_shape hv with ⟨i,t,rfl,rfl⟩ | ⟨x,t,rfl,rfl⟩
    · exact wpAny_pyHash_int h
    · exact wpAny_pyHash_str h
  eqBool:=fun hu hv h=>by
    rcases keyIs_shape hu with ⟨i,t,rfl,rfl⟩ | ⟨x,t,rfl,rfl⟩
    · rcases keyIs_shape hv with ⟨j,u,rfl,rfl⟩ | ⟨y,u,rfl,rfl⟩
      · rw [key_ll] at h; exact wpAny_eqBool_int h
      · rw [key_lr] at h; exact SeqAt.EqAt.int_str i t y u _ _ _ _ h
    · rcases keyIs_shape hv with ⟨j,u,rfl,rfl⟩ | ⟨y,u,rfl,rfl⟩
      · rw [key_rl] at h; exact SeqAt.EqAt.str_int x t j u _ _ _ _ h
      · rw [key_rr] at h; exact wpAny_eqBool_str h
  «strs» := fun k x t v h => by
    rcases keyIs_shape h with ⟨i,u,rfl,e⟩ | ⟨y,u,rfl,e⟩
    · exact nomatch e
    · injection e with e1 _
      subst e1
      cases v <;> rfl
end L2
namespace L2
open PySem PySem.Spec PyProof.Rows
inductive V where
  | non | bl (b:Bool) | int (i:Int) | str (x:Str) | byt (b:Array UInt8) | flt (b:UInt64) | ref (a:Addr) | ty (n:String)
  deriving DecidableEq
def RelV:V→Value→Prop
  | .non,u=>u=Value.none
  | .bl b,u=>u=Value.bool b
  | .int i,u=>∃ t,u=Value.int i t
  | .str x,u=>∃ t,u=Value.str x t
  | .byt b,u=>∃ t,u=Value.bytes b t
  | .flt b,u=>∃ t,u=Value.float b t
  | .ref a,u=>u=Value.ref a
  | .ty n,u=>u=Value.type n
abbrev Vals:List V→List Value→Prop:=Paired RelV
theorem Vals.length {xs:List V} {us:List Value} (r:Vals xs us):xs.length=us.length:=Paired.length r
theorem Vals.get:∀ {xs:List V} {us:List Value} {i:Nat} {x:V},Vals xs us→xs[i]?=some x→∃ u,us[i]?=some u∧RelV x u
  | _,_,_,_,.nil,e=>by simp at e
  | _,_,0,_,.cons r _,e=>by simp at e; subst e; exact ⟨_,rfl,r⟩
  | _,_,i+1,x,.cons _ t,e=>by
    obtain ⟨u,h1,h2⟩:=Vals.get (i:=i) (x:=x) t (by simpa using e)
    exact ⟨u,by simpa using h1,h2⟩
theorem Vals.append:∀ {xs ys:List V} {us ws:List Value},Vals xs us→Vals ys ws→Vals (xs++ys) (us++ws)
  | _,_,_,_,.nil,s=>s
  | _,_,_,_,.cons r t,s=>.cons r (Vals.append t s)
theorem Vals.take:∀ {xs:List V} {us:List Value} (n:Nat),Vals xs us→Vals (xs.take n) (us.take n)
  | _,_,0,_=>.nil
  | _,_,_+1,.nil=>.nil
  | _,_,n+1,.cons r t=>.cons r (Vals.take n t)
theorem Vals.drop:∀ {xs:List V} {us:List Value} (n:Nat),Vals xs us→Vals (xs.drop n) (us.drop n)
  | _,_,0,r=>r
  | _,_,_+1,.nil=>.nil
  | _,_,n+1,.cons _ t=>Vals.drop n t
def RelO:Option V→Option Value→Prop
  | some v,some u=>RelV v u
  | none,none=>True
  | _,_=>False
def KV {κ:Type}:List (κ×V)→List (κ×Value)→Prop:=Paired fun (p:κ×V) (q:κ×Value)=>p.1=q.1∧RelV p.2 q.2
def kV:Key→V
  | .inl i=>.int i
  | .inr x=>.str x
inductive TabS where
  | tab (q:Str) (ln cl:Value)
  | code (q:Str)
inductive HO where
  /-- a list -/
  | lst (xs:List V)
  /-- a tuple (never changes) -/
  | tup (xs:List V)
  /-- a dict whose keys are ints and texts; one whose keys are tuples of ints and texts (the empty one is both) -/
  | dK (kvs:List (Key×V)) | dT (kvs:List (List Key×V))
  /-- a set of ints: its members,its size -/
  | set (S:Int→Bool) (n:Nat)
  /-- an instance of the class at C,its dict at dx,its attributes -/
  | ins (C dx:Addr) (fs:List (Str×V))
  /-- the dict of the instance at x -/
  | own (x:Addr)
  /-- the dict of an exception -/
  | xd (fs:List (Str×V))
  /-- a bound method,f of x -/
  | met (f x:Addr)
  /-- a range object lo,lo+1,.. below hi -/
  | rng (lo hi:Int)
  /-- a thing that is known to the object (the script; a dict while a loop walks it): read,never written while it is so -/
  | frz (o:Obj) (u:HO)
  /-- a code object's table -/
  | tbl (ps:TabS)
  /-- any other thing,by what is true of its one object (a def of one's own: SetO a S n:=HO.ext fun h=>..) -/
  | ext (φ:Heap→Prop)
abbrev Hp:=Addr→Option HO
def upd (H:Hp) (a:Addr) (o:HO):Hp:=fun b=>if b=a then some o else H b
theorem upd_same {H:Hp} {a:Addr} {o:HO}:upd H a o a=some o:=by unfold upd; rw [if_pos rfl]
theorem upd_ne {H:Hp} {a b:Addr} {o:HO} (h:b≠a):upd H a o b=H b:=by unfold upd; rw [if_neg h]
theorem upd_upd {H:Hp} {a:Addr} {o u:HO}:upd (upd H a o) a u=upd H a u:=by
  funext b; unfold upd; split <;> rfl
theorem ne_of_none {H:Hp} {a b:Addr} {o:HO} (h:H a=some o) (h':H b=none):a≠b:=by
  intro e; subst e; rw [h] at h'; cases h'
section
variable (P:Program) (w:World)
def ObjOk (H:Hp) (h:Heap) (a:Addr):HO→Prop
  | .lst xs=>xs.length≤sizeLine∧∃ (its:List Value) (n:Nat),Vals xs its∧h.get? a=some { cls:=.type "list",data:=.seq its.toArray n }
  | .tup xs=>xs.length≤sizeLine∧∃ its:List Value,Vals xs its∧IsTup h a its.toArray
  | .dK kvs=>kvs.length≤sizeLine∧(a==sysModules)=false∧∃ vs,KV kvs vs∧h.DictOf (mixKind P w) a vs
  | .dT kvs=>kvs.length≤sizeLine∧(a==sysModules)=false∧∃ xs:List (List Key×Addr×Value),
      Paired (fun (p:List Key×V) (q:List Key×Addr×Value)=>p.1=q.1∧H q.2.1=some (.tup (p.1.map kV))∧RelV p.2 q.2.2) kvs xs ∧
      ∃ o es ep,h.get? a=some o∧o.ExactDict∧o.data=.dict es ep∧es.toList=xs.map (entryOfKey (tupleKind (mixKind P w)))∧(xs.map (·.1)).Nodup
  | .set S n=>h.SetOf (intKind P w) a S n
  | .ins C dx fs=>H dx=some (.own a)∧fs.length≤1000∧dx≠a∧h.get? a=some (PySem.W.instObj C dx) ∧
      ∃ mA,h.Ns1 dx mA∧(∀ f,RelO (fs.lookup f) (mA f))∧PySem.Within mA (fs.map (·.1))
  | .own _=>∃ o,h.get? a=some o
  | .xd fs=>∃ mA,h.Ns1 a mA∧∀ f,RelO (fs.lookup f) (mA f)
  | .rng lo hi=>∃ t u v,h.get? a=some { cls:=.type "range",data:=.fields #[.int lo t,.int hi u,.int 1 v] }
  | .frz o u=>h.get? a=some o∧ObjOk H h a u
  | .tbl (.tab q ln cl)=>h.get? a=some { cls:=.none,data:=.fields #[] }∨∃ c,h.get? a=some { cls:=.none,data:=.fields #[ln,cl,.ref c] }∧H c=some (.tbl (.code q))
  | .tbl (.code q)=>h.CodeRec (.ref a) q
  | .met f x=>h.get? a=some (PySem.W.methodObj (.ref f) (.ref x))
  | .ext φ=>φ h∧(∃ o,h.get? a=some o)∧∀ h1 h2:Heap,φ h1→(∀ o,h1.get? a=some o→h2.get? a=some o)→φ h2
def HOk (H:Hp) (h:Heap):Prop:=∀ a o,H a=some o→ObjOk P w H h a o
end
section
variable {P:Program} {w:World} {H H':Hp} {h h':Heap} {a:Addr} {o:HO}
theorem ObjOk.lt (x:ObjOk P w H h a o):a<h.objs.size:=by
  cases o with
  | lst xs=>obtain ⟨_,_,_,_,e⟩:=x; exact Heap.lt_size e
  | tup xs=>obtain ⟨_,_,_,p⟩:=x; exact p.lt
  | dK kvs=>obtain ⟨_,_,_,_,o,_,_,e,_⟩:=x; exact Heap.lt_size e
  | dT kvs=>obtain ⟨_,_,_,_,o,_,_,e,_⟩:=x; exact Heap.lt_size e
  | set S n=>obtain ⟨o,_,_,_,e,_⟩:=x; exact Heap.lt_size e
  | ins C dx fs=>obtain ⟨_,_,_,e,_⟩:=x; exact Heap.lt_size e
  | own y=>obtain ⟨_,e⟩:=x; exact Heap.lt_size e
  | xd fs=>obtain ⟨_,⟨_,_,_,e,_⟩,_⟩:=x; exact Heap.lt_size e
  | rng lo hi=>obtain ⟨_,_,_,e⟩:=x; exact Heap.lt_size e
  | frz ob u=>obtain ⟨e,_⟩:=x; exact Heap.lt_size e
  | tbl ps=>cases ps with
    | tab q ln cl=>rcases x with e | ⟨c,e,_⟩ <;> exact Heap.lt_size e
    | code q=>obtain ⟨c,o,vs,t,e1,e2,_⟩:=x; cases e1; exact Heap.lt_size e2
  | met f y=>exact Heap.lt_size (show h.get? a=some _ from x)
  | ext φ=>obtain ⟨_,⟨_,e⟩,_⟩:=x; exact Heap.lt_size e
theorem Paired.mapP {α β:Type} {F G:α→β→Prop}:∀ {l₁:List α} {l₂:List β},Paired F l₁ l₂→(∀ a b,F a b→G a b)→Paired G l₁ l₂
  | _,_,.nil,_=>.nil
  | _,_,.cons r t,f=>.cons (f _ _ r) (Paired.mapP t f)
def Fix:HO→Prop
  | .tup _=>True
  | .tbl _=>True
  | _=>False
abbrev FixO:={ u:HO // Fix u }
theorem ObjOk.stay (x:ObjOk P w H h a o) (k:∀ b u,(b=a∨H b=some (.own a))→h.get? b=some u→h'.get? b=some u)
    (ho:∀ b,H b=some (.own a)→H' b=some (.own a)) (ht:∀ (b:Addr) (u:FixO),H b=some u.1→H' b=some u.1):ObjOk P w H' h' a o:=by
  induction o with
  | lst xs=>obtain ⟨z,its,n,r,e⟩:=x; exact ⟨z,its,n,r,k _ _ (.inl rfl) e⟩
  | tup xs=>obtain ⟨z,its,r,ob,e,c⟩:=x; exact ⟨z,its,r,ob,k _ _ (.inl rfl) e,c⟩
  | dK kvs=>obtain ⟨z,y,vs,r,ob,es,ep,e,c⟩:=x; exact ⟨z,y,vs,r,ob,es,ep,k _ _ (.inl rfl) e,c⟩
  | dT kvs =>
    obtain ⟨z,y,xs,r,ob,es,ep,e,c⟩:=x
    exact ⟨z,y,xs,Paired.mapP r fun p q z=>⟨z.1,ht _ ⟨.tup _,trivial⟩ z.2.1,z.2.2⟩,ob,es,ep,k _ _ (.inl rfl) e,c⟩
  | set S n=>obtain ⟨ob,es,ep,t,e,c⟩:=x; exact ⟨ob,es,ep,t,k _ _ (.inl rfl) e,c⟩
  | ins C dx fs =>
    obtain ⟨d,z,ne,e,mA,⟨od,es,ep,e2,c⟩,r⟩:=x
    exact ⟨ho _ d,z,ne,k _ _ (.inl rfl) e,mA,⟨od,es,ep,k _ _ (.inr d) e2,c⟩,r⟩
  | own y=>obtain ⟨ob,e⟩:=x; exact ⟨ob,k _ _ (.inl rfl) e⟩
  | xd fs=>obtain ⟨mA,⟨od,es,ep,e,c⟩,r⟩:=x; exact ⟨mA,⟨od,es,ep,k _ _ (.inl rfl) e,c⟩,r⟩
  | rng lo hi=>obtain ⟨t,u,v,e⟩:=x; exact ⟨t,u,v,k _ _ (.inl rfl) e⟩
  | frz ob u ih=>obtain ⟨e,q⟩:=x; exact ⟨k _ _ (.inl rfl) e,ih q⟩
  | tbl ps=>cases ps with
    | tab q ln cl =>
      rcases x with e | ⟨c,e,r⟩
      · exact .inl (k a _ (.inl rfl) e)
      · exact .inr ⟨c,k a _ (.inl rfl) e,ht c ⟨.tbl (.code q),trivial⟩ r⟩
    | code q =>
      obtain ⟨c,o,vs,t,e1,e2,e3⟩:=x
      cases e1
      exact ⟨_,o,vs,t,rfl,k a _ (.inl rfl) e2,e3⟩
  | met f y =>
    have e:h.get? a=some (PySem.W.methodObj (.ref f) (.ref y)):=x
    show h'.get? a=some (PySem.W.methodObj (.ref f) (.ref y))
    exact k a _ (.inl rfl) e
  | ext φ=>obtain ⟨p,⟨o,e⟩,st⟩:=x; exact ⟨st _ _ p fun o q=>k _ _ (.inl rfl) q,⟨o,k _ _ (.inl rfl) e⟩,st⟩
theorem HOk.lt (x:HOk P w H h) (e:H a=some o):a<h.objs.size:=(x a o e).lt
theorem HOk.fresh (x:HOk P w H h) (e:h.objs.size≤a):H a=none:=by
  cases q:H a with
  | none=>rfl
  | some u=>exact absurd (Nat.lt_of_lt_of_le (x.lt q) e) (Nat.lt_irrefl _)
theorem HOk.kept (x:HOk P w H h) (k:∀ b u,h.get? b=some u→h'.get? b=some u):HOk P w H h':=fun a o e =>
  (x a o e).stay (fun b u _ q=>k b u q) (fun _ q=>q) fun _ _ q=>q
theorem HOk.laid (x:HOk P w H h) (k:∀ b u,h.get? b=some u→h'.get? b=some u) (hp:h.objs.size≤a) (new:ObjOk P w (upd H a o) h' a o):HOk P w (upd H a o) h':=fun b u e=>by
  have hn:=x.fresh hp
  by_cases hb:b=a
  · subst hb; rw [upd_same] at e; cases e; exact new
  · rw [upd_ne hb] at e
    exact (x b u e).stay (fun c v _ q=>k c v q) (fun c q=>by rw [upd_ne (ne_of_none q hn)]; exact q) fun c xs q=>by rw [upd_ne (ne_of_none q hn)]; exact q
end
def Rd (H:Hp) (a:Addr) (u:HO):Prop:=H a=some u∨∃ o,H a=some (.frz o u)
theorem Rd.ok {P:Program} {w:World} {H:Hp} {h:Heap} {a:Addr} {u:HO} (r:Rd H a u) (x:HOk P w H h):ObjOk P w H h a u:=by
  rcases r with r | ⟨o,r⟩
  · exact x a u r
  · obtain ⟨_,q⟩:=x a _ r
    exact q
def Mut:Option HO→Prop
  | some (.lst _)=>True
  | some (.dK _)=>True
  | some (.dT _)=>True
  | some (.set _ _)=>True
  | some (.ins _ _ _)=>True
  | some (.ext _)=>True
  | _=>False
section
variable {P:Program} {w:World} {H:Hp} {h h':Heap} {x e:Addr} {o':HO}
theorem HOk.write (ok : HOk P w H h) (mu : Mut (H x)) (he : e = x ∨ H e = some (.own x)) (k : ∀ b u, b ≠ e → h.get? b = some u → h'.get? b = some u) (heo : ∃ u, h'.get? e = some u)
    (new:ObjOk P w (upd H x o') h' x o'):HOk P w (upd H x o') h':=fun b u q=>by
  have nown:∀ c y,H c=some (.own y)→c≠x:=fun c y r z=>by subst z; rw [r] at mu; exact mu
  have ntup:∀ (c:Addr) (u:FixO),H c=some u.1→c≠x:=fun c ⟨u,f⟩ r z=>by subst z; rw [show H c=some u from r] at mu; cases u <;> first | exact mu | exact f
  by_cases hb:b=x
  · subst hb; rw [upd_same] at q; cases q; exact new
  · rw [upd_ne hb] at q
    by_cases hbe:b=e
    · have q':H b=some (.own x):=by
        rcases he with z | z
        · exact absurd (hbe.trans z) hb
        · rw [hbe]; exact z
      rw [q] at q'; cases q'
      obtain ⟨v,hv⟩:=heo
      exact ⟨v,by rw [hbe]; exact hv⟩
    · refine (ok b u q).stay (fun c v hc r=>k c v ?_ r) (fun c r=>by rw [upd_ne (nown c b r)]; exact r) fun c xs r=>by rw [upd_ne (ntup c xs r)]; exact r
      rcases hc with rfl | hc
      · exact hbe
      · rintro rfl
        rcases he with z | z
        · exact nown c b hc z
        · rw [hc] at z; cases z; exact hb rfl
end
structure Un (fs ex:List Addr) (H H':Hp) (h h':Heap):Prop where
  keep:∀ b o,h.get? b=some o→H b=none→b∉fs→b∉ex→h'.get? b=some o
  slot:∀ b o,h.get? b=some o→H b=none→b∈fs→b∉ex→∃ sl,h'.get? b=some { o with slots:=sl }
  free:∀ b o,h.get? b=some o→H b=none→b∉ex→H' b=none
  there:∀ b o,h.get? b=some o→b∉ex→∃ o',h'.get? b=some o'
  tups:∀ b xs,H b=some (.tup xs)→H' b=some (.tup xs)
  frzs:∀ b o u,H b=some (.frz o u)→H' b=some (.frz o u)
  tbls:∀ b ps,H b=some (.tbl ps)→H' b=some (.tbl ps)
section
variable {fs fs' ex ex':List Addr} {H H1 H2:Hp} {h h1 h2 h':Heap} {a x e:Addr} {o:HO}
theorem Un.any (u:Un fs ex H H1 h h1) {b:Addr} {ob:Obj} (q:h.get? b=some ob) (n:H b=none) (hx:b∉ex):∃ sl,h1.get? b=some { ob with slots:=sl }:=by
  by_cases hb:b∈fs
  · exact u.slot b ob q n hb hx
  · exact ⟨ob.slots,u.keep b ob q n hb hx⟩
theorem Un.kept (k:∀ b u,h.get? b=some u→h'.get? b=some u):Un fs ex H H h h' :=
  ⟨fun b ob q _ _ _=>k b ob q,fun b ob q _ _ _=>⟨ob.slots,k b ob q⟩,fun _ _ _ n _=>n,fun b ob q _=>⟨ob,k b ob q⟩,fun _ _ q=>q,fun _ _ _ q=>q,fun _ ps q=>(by rw [q])⟩
theorem Un.refl:Un fs ex H H h h:=Un.kept fun _ _ q=>q
theorem Un.laid (k:∀ b u,h.get? b=some u→h'.get? b=some u) (hp:h.objs.size≤a) (hn:H a=none):Un fs ex H (upd H a o) h h' where
  keep:=fun b u q _ _ _=>k b u q
  slot:=fun b u q _ _ _=>⟨u.slots,k b u q⟩
  free:=fun b u q n _=>by rw [upd_ne (Nat.ne_of_lt (Nat.lt_of_lt_of_le (Heap.lt_size q) hp))]; exact n
  there:=fun b u q _=>⟨u,k b u q⟩
  tups:=fun b xs q=>by rw [upd_ne (ne_of_none q hn)]; exact q
  frzs:=fun b u xs q=>by rw [upd_ne (ne_of_none q hn)]; exact q
  tbls:=fun b ps q=>(by rw [upd_ne (ne_of_none q hn),q])
theorem Un.write (mu:Mut (H x)) (he:e=x∨H e=some (.own x)) (k:∀ b u,b≠e→h.get? b=some u→h'.get? b=some u) (heo:∃ u,h'.get? e=some u):Un fs ex H (upd H x o) h h':=by
  have hx:∀ b,H b=none→b≠x:=fun b n z=>by subst z; rw [n] at mu; exact mu
  have hb:∀ b,H b=none→b≠e:=fun b n z=>by
    subst z
    rcases he with r | r
    · exact hx b n r
    · rw [n] at r; cases r
  have hm:∀ b u,H b=some u→¬ Mut (some u)→b≠x:=fun b u q nm z=>by subst z; rw [q] at mu; exact nm mu
  refine ⟨fun b u q n _ _=>k b u (hb b n) q,fun b u q n _ _=>⟨u.slots,k b u (hb b n) q⟩,fun b u q n _=>by rw [upd_ne (hx b n)]; exact n,fun b u q _=>?_,
    fun b xs q=>by rw [upd_ne (hm b _ q fun z=>z)]; exact q,fun b u xs q=>by rw [upd_ne (hm b _ q fun z=>z)]; exact q,fun b ps q=>(by rw [upd_ne (hm b _ q fun z=>z),q])⟩
  by_cases hbe:b=e
  · subst hbe; exact heo
  · exact ⟨u,k b u hbe q⟩
end
def trk (h:Heap) (H:Hp):List Addr:=(List.range h.objs.size).filter fun a=>(H a).isSome
def hidT (h:Heap) (H:Hp):Heap:=PySem.W.hideAll h (trk h H)
theorem hidT_size (h:Heap) (H:Hp):(hidT h H).objs.size=h.objs.size:=PySem.W.hideAll_size _ _
theorem hidT_get {h:Heap} {H:Hp} {b:Addr} {o:Obj} (e:h.get? b=some o) (n:H b=none):(hidT h H).get? b=some o :=
  PySem.W.hideAll_get _ e fun hm=>by
    have q:(H b).isSome=true:=(List.mem_filter.mp hm).2
    rw [n] at q; simp at q
theorem of_hidT {h:Heap} {H:Hp} {b:Addr} {o:Obj} (e:(hidT h H).get? b=some o):h.get? b=some o∧H b=none:=by
  have e':h.get? b=some o:=PySem.W.of_hideAll (trk h H) e
  refine ⟨e',?_⟩
  cases q:H b with
  | none=>rfl
  | some x =>
    have hm:b∈trk h H:=List.mem_filter.mpr ⟨List.mem_range.mpr (Heap.lt_size e'),by simp [q]⟩
    have z:(hidT h H).get? b=none:=PySem.W.hideAll_none (trk h H) hm
    rw [z] at e; cases e
def allNews (g h:Heap) (L:Addr):List (Addr×Obj):=(List.range h.objs.size).filterMap fun a=>if a=L∨(g.get? a).isSome=true then none else (h.get? a).map fun o=>(a,o)
def rest (g h:Heap) (L d:Addr):List (Addr×Obj):=(allNews g h L).filter fun p=>decide (p.1≠d)
end L2
namespace L2
open PySem PySem.Spec PyProof.Rows
def BmK (mg:Str→Option Value) (h:Heap):Prop:=∃ bm ob,mg "__builtins__" = some (.ref bm)∧bm≠builtinsNs∧h.get? bm=some ob∧ob.cls=.type "module" ∧ ob.dict=some builtinsNs∧ob.data=.plain
theorem BmK.keeps {mg:Str→Option Value} {h h':Heap} (x:BmK mg h) (k:∀ b o,h.get? b=some o→h'.get? b=some o):BmK mg h':=let ⟨bm,ob,a,b,c,d⟩:=x; ⟨bm,ob,a,b,k _ _ c,d⟩
structure Mod (K:PySem.W.Frag) (mg:Str→Option Value) (base:Heap):Prop where
  kin:K.In base
  glob:base.Ns mainGlobals mg
  blt:∃ mb,base.Ns builtinsNs mb∧∀ x:Str,x ≠ "__name__" → mb x=bootBuiltins x
  nolimit:base.NoLimit
  bm:BmK mg base
structure Cx where
  prog:Program
  w:World
  K:PySem.W.Frag
  mg:Str→Option Value
  base:Heap
  A:Around
  N:List Str
  s₀:Shared
  H₀:Hp
  env:Env
  outer:List Env
  stack:List Env
  ex:List Addr
  fn:Str→Bool
  calm:Bool
  pn:List (Addr×Obj)
  xe:Value→Shared→Prop
def frs (l:List Env):List Addr:=l.filterMap (·.frame)
abbrev Cx.fs (X:Cx):List Addr:=frs X.outer
def Vis (sc:Scope) (x:Str):Prop:=sc.names.lookup x=some .local∨sc.names.lookup x=some .cell∨sc.names.lookup x=some .free
def Loc (sc:Scope) (x:Str):Prop:=sc.names.lookup x=some .local∨sc.names.lookup x=some .cell
def Look (env:Env) (h:Heap) (m:Str→Option Value) (x:Str) (u:Value):Prop :=
  (env.kindOf x=some .local∧m x=some u)∨((env.kindOf x=some .cell∨env.kindOf x=some .free)∧∃ c,env.cells.lookup x=some c∧h.IsCell c (some u))
structure Cx.Ok (X:Cx):Prop where
  mod:Mod X.K X.mg X.base
  kind:X.env.scope.kind=.function
  glob:X.env.globals=mainGlobals
  blt:X.env.builtins=builtinsNs
  above:X.s₀.heap.objs.size≤X.env.locals
  inj:∀ x y c,X.env.cells.lookup x=some c→X.env.cells.lookup y=some c→x=y
  has:∀ x,(X.env.kindOf x=some .cell∨X.env.kindOf x=some .free)→∃ c,X.env.cells.lookup x=some c
  cab:∀ x c,X.fn x=true→X.env.cells.lookup x=some c→X.s₀.heap.objs.size≤c
  hd:X.calm=true→HBp X.base X.pn X.A
  frames:X.A.frames=some X.stack
  stk:X.stack=X.outer∨(X.stack=X.env::X.outer∧X.env.frame=some X.env.locals)
  exf:∀ b∈X.ex,b≠X.env.locals∧∀ x c,X.env.cells.lookup x=some c→c≠b
  bs:∀ b o,X.base.get? b=some o→X.s₀.heap.get? b=some o∧X.H₀ b=none
  bsz:X.base.objs.size≤X.s₀.heap.objs.size
  noex:∀ b o,X.base.get? b=some o→b∉X.ex
  exfs:∀ b∈X.ex,b∉X.fs
  funs:X.s₀.heap.FunFrames X.base X.outer
  frf:∀ b∈X.fs,X.H₀ b=none
structure Inv (X:Cx) (pins:List (Addr×Obj)) (σ:List (Option V)) (H:Hp) (s:Shared):Prop where
  ok:X.Ok
  os:s.os=X.s₀.os
  bare:AllBare s.gens
  base:Un X.fs X.ex X.H₀ H X.s₀.heap s.heap
  loc:∃ m,s.heap.Ns X.env.locals m∧∀ (i:Nat) (x:Str) (v:V),X.N[i]?=some x→σ[i]?=some (some v)→Vis X.env.scope x→∃ u,RelV v u∧Look X.env s.heap m x u
  cell:∀ x c,X.env.cells.lookup x=some c→∃ v,s.heap.IsCell c v
  free:H X.env.locals=none
  freeC:∀ x c,X.env.cells.lookup x=some c→H c=none
  pin:∀ p∈X.pn++pins,s.heap.get? p.1=some p.2∧H p.1=none∧p.1≠X.env.locals∧p.1∉X.fs∧∀ v,p.2.data≠.cell v
  hok:HOk X.prog X.w H s.heap
  len:σ.length=X.N.length
section
variable {X:Cx} {pins:List (Addr×Obj)} {σ:List (Option V)} {H H':Hp} {s:Shared} {h':Heap}
theorem Cx.Ok.nofr (ok:X.Ok) {b:Addr} {o:Obj} (e:X.base.get? b=some o):b∉X.fs:=fun hb=>by
  have:=(ok.funs.mem hb).1
  rw [e] at this; cases this
theorem Inv.bs (I:Inv X pins σ H s):∀ b o,X.base.get? b=some o→s.heap.get? b=some o∧H b=none:=fun b o e =>
  ⟨I.base.keep b o (I.ok.bs b o e).1 (I.ok.bs b o e).2 (I.ok.nofr e) (I.ok.noex b o e),I.base.free b o (I.ok.bs b o e).1 (I.ok.bs b o e).2 (I.ok.noex b o e)⟩
theorem Inv.bk (I:Inv X pins σ H s):∀ b o,X.base.get? b=some o→s.heap.get? b=some o:=fun b o e=>(I.bs b o e).1
theorem Inv.mod (I:Inv X pins σ H s):Mod X.K X.mg X.base:=I.ok.mod
theorem Inv.hb (I:Inv X pins σ H s) (hc:X.calm=true):HB s.heap X.A:=by
  rcases I.ok.hd hc with h | ⟨a,oe,vs,e1,e2,e3⟩
  · exact .inl h
  · exact .inr ⟨a,oe,vs,e1,e2.elim (I.bk a oe) fun m=>(I.pin (a,oe) (List.mem_append_left _ m)).1,e3⟩
theorem Inv.hna (I:Inv X pins σ H s) (hc:X.calm=true) {it:Addr} (f3:it∈X.ex∨X.s₀.heap.objs.size≤it) (f5:∀ p∈X.pn++pins,p.1≠it):∀ a,X.A.handled=some (.ref a)→a≠it:=fun a ea z=>by
  subst z
  rcases I.ok.hd hc with h | ⟨b,oe,vs,e1,e2,e3⟩
  · rw [h] at ea; cases ea
  · rw [e1] at ea
    cases ea
    rcases e2 with e2 | e2
    · rcases f3 with z | z
      · exact I.ok.noex _ _ e2 z
      · exact absurd (Nat.lt_of_lt_of_le (Heap.lt_size e2) I.ok.bsz) (Nat.not_lt.mpr z)
    · exact f5 _ (List.mem_append_left _ e2) rfl
theorem Inv.kIn (I:Inv X pins σ H s):X.K.In s.heap:=I.ok.mod.kin.keeps I.bk
theorem Inv.fr (I:Inv X pins σ H s):∃ m,Fr X.base X.env.locals s.heap m :=
  let ⟨m,hn,_⟩:=I.loc
  ⟨m,hn,I.bk,Nat.le_trans I.ok.bsz I.ok.above⟩
theorem Inv.lt (I:Inv X pins σ H s):X.env.locals<s.heap.objs.size:=let ⟨_,hn,_⟩:=I.loc; hn.lt
theorem Inv.sz (I:Inv X pins σ H s):X.s₀.heap.objs.size≤s.heap.objs.size:=Nat.le_trans I.ok.above (Nat.le_of_lt I.lt)
theorem Inv.nofs (I:Inv X pins σ H s) {a:Addr} (h:s.heap.objs.size≤a):a∉X.fs:=fun hb=>by
  obtain ⟨_,o,ho,_⟩:=I.ok.funs.mem hb
  exact absurd (Nat.lt_of_lt_of_le (Heap.lt_size ho) (Nat.le_trans I.sz h)) (Nat.lt_irrefl _)
theorem Inv.cne (I:Inv X pins σ H s):∀ x c,X.env.cells.lookup x=some c→c≠X.env.locals:=fun x c e z=>by
  obtain ⟨v,o,ho,hd⟩:=I.cell x c e
  obtain ⟨m,⟨o',es,ep,ho',hd',_⟩,_⟩:=I.loc
  rw [z,ho'] at ho; cases ho; rw [hd'] at hd; cases hd
theorem Inv.funs (I:Inv X pins σ H s):s.heap.FunFrames X.base X.outer:=by
  have all:∀ (l:List Env),(∀ b∈frs l,b∈X.fs)→X.s₀.heap.FunFrames X.base l→s.heap.FunFrames X.base l:=by
    intro l
    induction l with
    | nil=>intro _ _; trivial
    | cons env r ih =>
      intro hs hl
      obtain ⟨hk,⟨L,o,hf,hn,ho,hd⟩,hr⟩:=hl
      have hL:L∈X.fs:=hs L (by unfold frs; rw [List.filterMap_cons,hf]; exact List.mem_cons_self)
      obtain ⟨sl,e⟩:=I.base.slot L o ho (I.ok.frf L hL) hL fun z=>I.ok.exfs L z hL
      exact ⟨hk,⟨L,_,hf,hn,e,hd⟩,ih (fun b hb=>hs b (by unfold frs; rw [List.filterMap_cons,hf]; exact List.mem_cons_of_mem _ hb)) hr⟩
  exact all X.outer (fun _ hb=>hb) I.ok.funs
theorem Inv.stack (I:Inv X pins σ H s):s.heap.FunFrames X.base X.stack:=by
  rcases I.ok.stk with e | ⟨e,hf⟩
  · rw [e]; exact I.funs
  · rw [e]
    obtain ⟨m,hn,_⟩:=I.loc
    refine .cons (by rw [I.ok.kind]; decide) hf hn ?_ I.funs
    exact Heap.get?_none_of_le (Nat.le_trans I.ok.bsz I.ok.above)
theorem Inv.stkSub (I:Inv X pins σ H s):∀ b∈frs X.stack,b∈X.env.locals::X.fs:=fun b hb=>by
  rcases I.ok.stk with e | ⟨e,hf⟩
  · rw [e] at hb; exact List.mem_cons_of_mem _ hb
  · rw [e] at hb
    unfold frs at hb
    rw [List.filterMap_cons,hf] at hb
    exact hb
theorem Inv.stkFree (I:Inv X pins σ H s):∀ b∈frs X.stack,H b=none:=fun b hb=>by
  rcases List.mem_cons.mp (I.stkSub b hb) with e | hb
  · rw [e]; exact I.free
  · obtain ⟨_,o,ho,_⟩:=I.ok.funs.mem hb
    exact I.base.free b o ho (I.ok.frf b hb) fun z=>I.ok.exfs b z hb
theorem Inv.step {g':Array GenState} {t':Nat} {d':Drawn} {ch:List Addr} (I:Inv X pins σ H s)
    (hch:∀ b∈ch,(b∈X.ex∨X.s₀.heap.objs.size≤b)∧b≠X.env.locals∧(∀ x c,X.env.cells.lookup x=some c→c≠b)∧∀ p∈X.pn++pins,p.1≠b)
    (keep:∀ b o,b≠X.env.locals→b∉X.fs→b∉ch→s.heap.get? b=some o→H b=none→h'.get? b=some o)
    (slot:∀ b o,b≠X.env.locals→b∈X.fs→b∉ch→s.heap.get? b=some o→H b=none→∃ sl,h'.get? b=some { o with slots:=sl }) (free:∀ b o,b∉ch→s.heap.get? b=some o→H b=none→H' b=none)
    (there:∀ b o,b∉ch→s.heap.get? b=some o→∃ o',h'.get? b=some o')
    (tups:∀ b xs,H b=some (.tup xs)→H' b=some (.tup xs)) (frzs:∀ b o u,H b=some (.frz o u)→H' b=some (.frz o u)) (tbls:∀ b ps,H b=some (.tbl ps)→H' b=some (.tbl ps))
    (ns:∀ m,s.heap.Ns X.env.locals m→h'.Ns X.env.locals m) (hok:HOk X.prog X.w H' h') (hg:AllBare g') :
    Inv X pins σ H' { s with heap:=h',gens:=g',drawn:=d',toks:=t' }:=by
  have neL:∀ b o,X.s₀.heap.get? b=some o→b≠X.env.locals:=fun b o e=>Nat.ne_of_lt (Nat.lt_of_lt_of_le (Heap.lt_size e) I.ok.above)
  have neC:∀ b o,X.s₀.heap.get? b=some o→b∉X.ex→b∉ch:=fun b o e hx hb=>by
    rcases (hch b hb).1 with z | z
    · exact hx z
    · exact absurd (Nat.lt_of_lt_of_le (Heap.lt_size e) z) (Nat.lt_irrefl _)
  have cellK:∀ x c,X.env.cells.lookup x=some c→∀ v,s.heap.IsCell c v→h'.IsCell c v:=fun x c e v ⟨o,ho,hd⟩=>by
    have nch:c∉ch:=fun z=>(hch c z).2.2.1 x c e rfl
    by_cases hc:c∈X.fs
    · obtain ⟨sl,q⟩:=slot c o (I.cne x c e) hc nch ho (I.freeC x c e)
      exact ⟨_,q,hd⟩
    · exact ⟨o,keep c o (I.cne x c e) hc nch ho (I.freeC x c e),hd⟩
  refine ⟨I.ok,I.os,hg,⟨fun b o e n hb hx=>?_,fun b o e n hb hx=>?_,fun b o e n hx=>?_,fun b o e hx=>?_,fun b xs e=>tups b xs (I.base.tups b xs e),fun b o xs e=>frzs b o xs (I.base.frzs b o xs e),fun b ps e=>?_⟩,?_,fun x c e=>?_,?_,fun x c e=>?_,fun p hp=>?_,hok,I.len⟩
  · exact keep b o (neL b o e) hb (neC b o e hx) (I.base.keep b o e n hb hx) (I.base.free b o e n hx)
  · obtain ⟨sl,e1⟩:=I.base.slot b o e n hb hx
    obtain ⟨sl',e2⟩:=slot b _ (neL b o e) hb (neC b o e hx) e1 (I.base.free b o e n hx)
    exact ⟨sl',e2⟩
  · obtain ⟨o',e1⟩:=I.base.there b o e hx
    exact free b o' (neC b o e hx) e1 (I.base.free b o e n hx)
  · obtain ⟨o',e1⟩:=I.base.there b o e hx
    exact there b o' (neC b o e hx) e1
  · exact tbls b ps (I.base.tbls b ps e)
  · obtain ⟨m,hn,hl⟩:=I.loc
    refine ⟨m,ns m hn,fun i x v e1 e2 e3=>?_⟩
    obtain ⟨u,r,l⟩:=hl i x v e1 e2 e3
    refine ⟨u,r,?_⟩
    rcases l with l | ⟨k,c,e,z⟩
    · exact .inl l
    · exact .inr ⟨k,c,e,cellK x c e _ z⟩
  · obtain ⟨v,z⟩:=I.cell x c e
    exact ⟨v,cellK x c e v z⟩
  · obtain ⟨m,⟨o,_,_,ho,_⟩,_⟩:=I.loc
    exact free _ o (fun z=>(hch _ z).2.1 rfl) ho I.free
  · obtain ⟨v,o,ho,hd⟩:=I.cell x c e
    exact free c o (fun z=>(hch c z).2.2.1 x c e rfl) ho (I.freeC x c e)
  · obtain ⟨e,n,ne,nf,d⟩:=I.pin p hp
    have nch:p.1∉ch:=fun z=>(hch p.1 z).2.2.2 p hp rfl
    exact ⟨keep p.1 p.2 ne nf nch e n,free p.1 p.2 nch e n,ne,nf,d⟩
theorem Inv.un {t':Nat} (I:Inv X pins σ H s) (u:Un X.fs [] H H' s.heap h') (hok:HOk X.prog X.w H' h'):Inv X pins σ H' { s with heap:=h',toks:=t' }:=by
  obtain ⟨m,⟨o,es,ep,ho,r⟩,_⟩:=id I.loc
  obtain ⟨sl,hL⟩:=u.any ho I.free (by simp)
  exact I.step (g':=s.gens) (d':=s.drawn) (ch:=[]) (fun _ z=>nomatch z) (fun b o _ hb _ e n=>u.keep b o e n hb (by simp)) (fun b o _ hb _ e n=>u.slot b o e n hb (by simp)) (fun b o _ e n=>u.free b o e n (by simp)) (fun b o _ e=>u.there b o e (by simp)) u.tups u.frzs u.tbls (fun m' hm=>by
    obtain ⟨o',es',ep',ho',r'⟩:=hm
    rw [ho] at ho'; cases ho'
    exact ⟨_,es',ep',hL,r'⟩) hok I.bare
theorem Inv.call {g':Array GenState} {t':Nat} {d':Drawn} {ch:List Addr} (I:Inv X pins σ H s) (u:Un (frs X.stack) ch H H' s.heap h') (hok:HOk X.prog X.w H' h') (hg:AllBare g')
    (hch:∀ b∈ch,(b∈X.ex∨X.s₀.heap.objs.size≤b)∧b≠X.env.locals∧(∀ x c,X.env.cells.lookup x=some c→c≠b)∧∀ p∈X.pn++pins,p.1≠b) :
    Inv X pins σ H' { s with heap:=h',gens:=g',drawn:=d',toks:=t' }:=by
  obtain ⟨m,⟨o,es,ep,ho,r⟩,_⟩:=id I.loc
  obtain ⟨sl,hL⟩:=u.any ho I.free fun z=>(hch _ z).2.1 rfl
  exact I.step (ch:=ch) hch (fun b o hL hb hc e n=>u.keep b o e n (fun z=>(List.mem_cons.mp (I.stkSub b z)).elim hL hb) hc) (fun b o _ _ hc e n=>u.any e n hc) (fun b o hc e n=>u.free b o e n hc) (fun b o hc e=>u.there b o e hc) u.tups u.frzs u.tbls (fun m' hm=>by
    obtain ⟨o',es',ep',ho',r'⟩:=hm
    rw [ho] at ho'; cases ho'
    exact ⟨_,es',ep',hL,r'⟩) hok hg
theorem Inv.turned {t':Nat} {it:Addr} (I:Inv X pins σ H s) (k:∀ b o,b≠it→s.heap.get? b=some o→h'.get? b=some o) (hn:H it=none) (hL:it≠X.env.locals)
    (h1:it∈X.ex∨X.s₀.heap.objs.size≤it) (h2:∀ x c,X.env.cells.lookup x=some c→c≠it) (h3:∀ p∈X.pn++pins,p.1≠it):Inv X pins σ H { s with heap:=h',toks:=t' }:=by
  have nit:∀ b u,H b=some u→b≠it:=fun b u e z=>by rw [z,hn] at e; cases e
  refine I.step (g':=s.gens) (d':=s.drawn) (ch:=[it]) (fun b hb=>?_) (fun b o _ _ hc e _=>k b o (fun z=>hc (by simp [z])) e) (fun b o _ _ hc e _=>⟨o.slots,k b o (fun z=>hc (by simp [z])) e⟩) (fun _ _ _ _ n=>n)
    (fun b o hc e=>⟨o,k b o (fun z=>hc (by simp [z])) e⟩) (fun _ _ e=>e) (fun _ _ _ e=>e) (fun b ps e=>(by rw [e])) (fun m hm=>?_) (fun b u e=>?_) I.bare
  · have e:b=it:=by simpa using hb
    subst e
    exact ⟨h1,hL,h2,h3⟩
  · obtain ⟨o,es,ep,ho,r⟩:=hm
    exact ⟨o,es,ep,k _ o (Ne.symm hL) ho,r⟩
  · refine (I.hok b u e).stay (fun c v hc q=>k c v ?_ q) (fun _ q=>q) fun _ _ q=>q
    rcases hc with z | z
    · rw [z]; exact nit b u e
    · exact nit c _ z
theorem Inv.tok (I:Inv X pins σ H s) (t:Nat):Inv X pins σ H { s with toks:=t }:=I.un (h':=s.heap) (t':=t) Un.refl I.hok
theorem Inv.kept {t':Nat} (I:Inv X pins σ H s) (k:∀ b u,s.heap.get? b=some u→h'.get? b=some u):Inv X pins σ H { s with heap:=h',toks:=t' }:=I.un (Un.kept k) (I.hok.kept k)
theorem Inv.laid {a:Addr} {o:HO} {t':Nat} (I:Inv X pins σ H s) (k:∀ b u,s.heap.get? b=some u→h'.get? b=some u) (hp:s.heap.objs.size≤a) (new:ObjOk X.prog X.w (upd H a o) h' a o) :
    Inv X pins σ (upd H a o) { s with heap:=h',toks:=t' }:=I.un (Un.laid k hp (I.hok.fresh hp)) (I.hok.laid k hp new)
theorem Inv.write {x e:Addr} {o:HO} {t':Nat} (I:Inv X pins σ H s) (mu:Mut (H x)) (he:e=x∨H e=some (.own x)) (k:∀ b u,b≠e→s.heap.get? b=some u→h'.get? b=some u) (heo:∃ u,h'.get? e=some u)
    (new:ObjOk X.prog X.w (upd H x o) h' x o):Inv X pins σ (upd H x o) { s with heap:=h',toks:=t' }:=I.un (Un.write mu he k heo) (I.hok.write mu he k heo new)
theorem Inv.weak {σ':List (Option V)} (I:Inv X pins σ H s) (hl:σ'.length=σ.length) (w:∀ (i:Nat) v,σ'[i]?=some (some v)→σ[i]?=some (some v)):Inv X pins σ' H s :=
  ⟨I.ok,I.os,I.bare,I.base,let ⟨m,hn,hl'⟩:=I.loc; ⟨m,hn,fun i x v e1 e2 e3=>hl' i x v e1 (w i v e2) e3⟩,I.cell,I.free,I.freeC,I.pin,I.hok,hl.trans I.len⟩
theorem Inv.pins_of {pins':List (Addr×Obj)} (I:Inv X pins σ H s) (h:∀ p∈pins',s.heap.get? p.1=some p.2∧H p.1=none∧p.1≠X.env.locals∧p.1∉X.fs∧∀ v,p.2.data≠.cell v):Inv X pins' σ H s :=
  ⟨I.ok,I.os,I.bare,I.base,I.loc,I.cell,I.free,I.freeC,fun p hp=>(List.mem_append.mp hp).elim (fun z=>I.pin p (List.mem_append_left _ z)) (h p),I.hok,I.len⟩
theorem nodup_ix {N:List Str} (hN:N.Nodup) {i j:Nat} {x:Str} (a:N[i]?=some x) (b:N[j]?=some x):i=j:=by
  obtain ⟨h1,e1⟩:=List.getElem?_eq_some_iff.mp a
  obtain ⟨h2,e2⟩:=List.getElem?_eq_some_iff.mp b
  exact (List.getElem_inj hN).mp (e1.trans e2.symm)
theorem store_ok2 {M:Model} {A:Around} {E:Value→Shared→Prop} {i:Nat} {x:Str} {v:V} {u:Value} {Q:Unit→Shared→Prop} (I:Inv X pins σ H s) (hN:X.N.Nodup) (hi:X.N[i]?=some x) (hx:Loc X.env.scope x) (r:RelV v u)
    (h:∀ s',Inv X pins (σ.set i (some v)) H s'→(∃ a,Heap.SameBut a s.heap s'.heap∧(a=X.env.locals∨X.env.cells.lookup x=some a))→Q () s') (hf:X.fn x=true∨X.env.scope.names.lookup x=some .local:=by first | exact .inl rfl | exact .inr rfl | assumption):wpAny M A (storeName X.env x u) Q E s:=by
  obtain ⟨m,hn,hl⟩:=id I.loc
  have hcls:(X.env.scope.kind==.class || (X.env.scope.kind==.module && X.env.locals != X.env.globals))=false:=by rw [I.ok.kind]; rfl
  have hiσ:i<σ.length:=by rw [I.len]; exact (List.getElem?_eq_some_iff.mp hi).1
  have cne:=I.cne
  have tracked:∀ {a:Addr} {h':Heap},(∃ o,s.heap.get? a=some o∧H a=none)→Heap.SameBut a s.heap h'→HOk X.prog X.w H h':=fun {a h'} ha hs b ob e=>by
    obtain ⟨_,_,hfree⟩:=ha
    refine (I.hok b ob e).stay (fun c w' hc q=>(hs.2 c ?_).trans q) (fun _ q=>q) fun _ _ q=>q
    rintro rfl
    rcases hc with rfl | hc
    · rw [hfree] at e; cases e
    · rw [hfree] at hc; cases hc
  rcases hx with hk | hk
  · refine wpAny_storeName_local hk hn (fun h' hn' hs=>?_) hcls
    obtain ⟨oL,_,_,hoL,_⟩:=id hn
    refine h _ ⟨I.ok,I.os,I.bare,⟨fun b o e n hb hx=>?_,fun b o e n hb hx=>?_,I.base.free,fun b o e hx=>?_,I.base.tups,I.base.frzs,I.base.tbls⟩,⟨_,hn',fun j y v' e1 e2 e3=>?_⟩,fun y c e=>?_,I.free,I.freeC,fun p hp=>?_,tracked ⟨oL,hoL,I.free⟩ hs,by simpa using I.len⟩ ⟨_,hs,.inl rfl⟩
    · exact (hs.2 b (Nat.ne_of_lt (Nat.lt_of_lt_of_le (Heap.lt_size e) I.ok.above))).trans (I.base.keep b o e n hb hx)
    · obtain ⟨sl,e1⟩:=I.base.slot b o e n hb hx
      exact ⟨sl,(hs.2 b (Nat.ne_of_lt (Nat.lt_of_lt_of_le (Heap.lt_size e) I.ok.above))).trans e1⟩
    · obtain ⟨o',e1⟩:=I.base.there b o e hx
      exact ⟨o',(hs.2 b (Nat.ne_of_lt (Nat.lt_of_lt_of_le (Heap.lt_size e) I.ok.above))).trans e1⟩
    · by_cases hj:j=i
      · subst hj
        rw [hi] at e1; cases e1
        rw [List.getElem?_set_self hiσ] at e2
        cases e2
        exact ⟨u,r,.inl ⟨hk,by simp⟩⟩
      · rw [List.getElem?_set_ne (Ne.symm hj)] at e2
        obtain ⟨u',r',q⟩:=hl j y v' e1 e2 e3
        refine ⟨u',r',?_⟩
        rcases q with ⟨k,e⟩ | ⟨k,c,e,z⟩
        · refine .inl ⟨k,?_⟩
          have:y≠x:=fun e=>hj (nodup_ix hN e1 (e ▸ hi))
          simp [this,e]
        · exact .inr ⟨k,c,e,z.sameBut hs (cne y c e)⟩
    · obtain ⟨w',z⟩:=I.cell y c e
      exact ⟨w',z.sameBut hs (cne y c e)⟩
    · obtain ⟨e,n,ne,nf,d⟩:=I.pin p hp
      exact ⟨(hs.2 p.1 ne).trans e,n,ne,nf,d⟩
  · have hfn:X.fn x=true:=by
      rcases hf with z | z
      · exact z
      · rw [z] at hk; cases hk
    obtain ⟨c,hc⟩:=I.ok.has x (.inl hk)
    obtain ⟨w',z⟩:=I.cell x c hc
    refine wpAny_storeName_cell I.ok.kind hk hc z (fun h' hc' hs=>?_)
    obtain ⟨oc,hoc,hocd⟩:=id z
    refine h { s with heap:=h' } ⟨I.ok,I.os,I.bare,⟨fun b o e n hb hx=>?_,fun b o e n hb hx=>?_,I.base.free,fun b o e hx=>?_,I.base.tups,I.base.frzs,I.base.tbls⟩,⟨m,hn.sameBut hs (Ne.symm (cne x c hc)),fun j y v' e1 e2 e3=>?_⟩,fun y c' e=>?_,I.free,I.freeC,fun p hp=>?_,tracked ⟨oc,hoc,I.freeC x c hc⟩ hs,by simpa using I.len⟩ ⟨c,hs,.inr hc⟩
    · exact (hs.2 b (Nat.ne_of_lt (Nat.lt_of_lt_of_le (Heap.lt_size e) (I.ok.cab x c hfn hc)))).trans (I.base.keep b o e n hb hx)
    · obtain ⟨sl,e1⟩:=I.base.slot b o e n hb hx
      exact ⟨sl,(hs.2 b (Nat.ne_of_lt (Nat.lt_of_lt_of_le (Heap.lt_size e) (I.ok.cab x c hfn hc)))).trans e1⟩
    · obtain ⟨o',e1⟩:=I.base.there b o e hx
      exact ⟨o',(hs.2 b (Nat.ne_of_lt (Nat.lt_of_lt_of_le (Heap.lt_size e) (I.ok.cab x c hfn hc)))).trans e1⟩
    · by_cases hj:j=i
      · subst hj
        rw [hi] at e1; cases e1
        rw [List.getElem?_set_self hiσ] at e2
        cases e2
        exact ⟨u,r,.inr ⟨.inl hk,c,hc,hc'⟩⟩
      · rw [List.getElem?_set_ne (Ne.symm hj)] at e2
        obtain ⟨u',r',q⟩:=hl j y v' e1 e2 e3
        refine ⟨u',r',?_⟩
        rcases q with q | ⟨k,c',e,z'⟩
        · exact .inl q
        · refine .inr ⟨k,c',e,z'.sameBut hs ?_⟩
          rintro rfl
          exact hj (nodup_ix hN e1 (I.ok.inj _ _ _ e hc ▸ hi))
    · by_cases hcc:c'=c
      · subst hcc; exact ⟨_,hc'⟩
      · obtain ⟨w2,z2⟩:=I.cell y c' e
        exact ⟨w2,z2.sameBut hs hcc⟩
    · obtain ⟨e,n,ne,nf,d⟩:=I.pin p hp
      refine ⟨(hs.2 p.1 ?_).trans e,n,ne,nf,d⟩
      intro q
      rw [q,hoc] at e
      have q':oc=p.2:=Option.some.inj e
      exact d w' (by rw [← q']; exact hocd)
theorem store_ok {M:Model} {A:Around} {E:Value→Shared→Prop} {i:Nat} {x:Str} {v:V} {u:Value} {Q:Unit→Shared→Prop} (I:Inv X pins σ H s) (hN:X.N.Nodup) (hi:X.N[i]?=some x) (hx:Loc X.env.scope x) (r:RelV v u)
    (h:∀ s',Inv X pins (σ.set i (some v)) H s'→Q () s') (hf:X.fn x=true∨X.env.scope.names.lookup x=some .local:=by first | exact .inl rfl | exact .inr rfl | assumption):wpAny M A (storeName X.env x u) Q E s :=
  store_ok2 I hN hi hx r (fun s' I' _=>h s' I') hf
theorem Inv.call' {s':Shared} {ch:List Addr} (I:Inv X pins σ H s) (ho:s'.os=s.os) (u:Un (frs X.stack) ch H H' s.heap s'.heap) (hok:HOk X.prog X.w H' s'.heap) (hg:AllBare s'.gens)
    (hch:∀ b∈ch,(b∈X.ex∨X.s₀.heap.objs.size≤b)∧b≠X.env.locals∧(∀ x c,X.env.cells.lookup x=some c→c≠b)∧∀ p∈X.pn++pins,p.1≠b):Inv X pins σ H' s':=by
  obtain ⟨h',g',d',t',o'⟩:=s'
  have e:o'=s.os:=ho
  subst e
  exact I.call (g':=g') (t':=t') (d':=d') u hok hg hch
end
abbrev XK:=Value→Option Addr→Hp→Prop
abbrev St:=List (Option V)
abbrev VK:=V→Hp→Prop
abbrev TE:=St→Hp→VK→Prop
abbrev TT:=St→Hp→(Bool→Hp→Prop)→Prop
abbrev TA:=St→Hp→(List V→Hp→Prop)→Prop
structure Ends where
  nx:St→Hp→Prop
  rt:VK
  bk:St→Hp→Prop:=fun _ _=>False
  ct:St→Hp→Prop:=fun _ _=>False
abbrev TS:=Ends→St→Hp→Prop
def EP (X:Cx) (pins:List (Addr×Obj)) (σ:St) (Q:VK) (u:Value) (s':Shared):Prop:=∃ v H',Inv X pins σ H' s'∧RelV v u∧Q v H'
def TP (X:Cx) (pins:List (Addr×Obj)) (σ:St) (Q:Bool→Hp→Prop) (b:Bool) (s':Shared):Prop:=∃ H',Inv X pins σ H' s'∧Q b H'
def AP (X:Cx) (pins:List (Addr×Obj)) (σ:St) (Q:List V→Hp→Prop) (us:List Value) (s':Shared):Prop:=∃ vs H',Inv X pins σ H' s'∧Vals vs us∧Q vs H'
def SP (X:Cx) (pins:List (Addr×Obj)) (D:Ends) (f:Flow) (s':Shared):Prop :=
  match f with
  | .next=>∃ σ' H',Inv X pins σ' H' s'∧D.nx σ' H'
  | .brk=>∃ σ' H',Inv X pins σ' H' s'∧D.bk σ' H'
  | .cont=>∃ σ' H',Inv X pins σ' H' s'∧D.ct σ' H'
  | .ret u=>∃ v σ' H',Inv X pins σ' H' s'∧RelV v u∧D.rt v H'
def PE (X:Cx) (e:Expr) (t:TE):Prop :=
  ∀ (pins:List (Addr×Obj)) (s:Shared) (σ:St) (H:Hp) (Q:VK),Inv X pins σ H s→t σ H Q→wpAny (model X.prog X.w) X.A (eval e X.env) (EP X pins σ Q) X.xe s
def PT (X:Cx) (e:Expr) (t:TT):Prop :=
  ∀ (pins:List (Addr×Obj)) (s:Shared) (σ:St) (H:Hp) (Q:Bool→Hp→Prop),Inv X pins σ H s→t σ H Q→wpAny (model X.prog X.w) X.A (isTrue e X.env (eval e X.env)) (TP X pins σ Q) X.xe s
def PW (X:Cx) (e:Expr) (t:TT):Prop :=
  ∀ (whole:Sem Value) (pins:List (Addr×Obj)) (s:Shared) (σ:St) (H:Hp) (Q:Bool→Hp→Prop),Inv X pins σ H s→t σ H Q→wpAny (model X.prog X.w) X.A (isTrue e X.env whole) (TP X pins σ Q) X.xe s
theorem PW.pt {X:Cx} {e:Expr} {t:TT} (h:PW X e t):PT X e t:=h _
def PA (X:Cx) (es:List Expr) (t:TA):Prop :=
  ∀ (pos:Pos) (pins:List (Addr×Obj)) (s:Shared) (σ:St) (H:Hp) (Q:List V→Hp→Prop),Inv X pins σ H s→t σ H Q→wpAny (model X.prog X.w) X.A (spliced (backTo pos (starEach es X.env))) (AP X pins σ Q) X.xe s
def PS (X:Cx) (st:Stmt) (t:TS):Prop :=
  ∀ (pins:List (Addr×Obj)) (s:Shared) (σ:St) (H:Hp) (D:Ends),Inv X pins σ H s→t D σ H→wpAny (model X.prog X.w) X.A (exec st X.env) (SP X pins D) X.xe s
def PSs (X:Cx) (st:List Stmt) (t:TS):Prop :=
  ∀ (pins:List (Addr×Obj)) (s:Shared) (σ:St) (H:Hp) (D:Ends),Inv X pins σ H s→t D σ H→wpAny (model X.prog X.w) X.A (execs st X.env) (SP X pins D) X.xe s
theorem thn {α:Type} {t:Sem α} {Q Q':α→Shared→Prop} {M:Model} {A:Around} {E:Value→Shared→Prop} {s:Shared} (h:wpAny M A t Q E s) (hQ:∀ a s,Q a s→Q' a s):wpAny M A t Q' E s:=wpAny_mono h hQ fun _ _ x=>x
end L2
namespace L2
open PySem PySem.Spec PyProof.Rows
section
variable {X:Cx}
def tVar (i:Nat):TE:=fun σ H Q=>∃ v,σ[i]?=some (some v)∧Q v H
def tC (v:V):TE:=fun _ H Q=>Q v H
theorem pe_var {i:Nat} {x:Str} {pos:Pos} (hN:X.N[i]?=some x) (hv:Vis X.env.scope x) (hd:(x==("__debug__" : Str))=false:=by decide) (hcd:(x==("__classdict__" : Str))=false:=by decide):PE X (.Name x pos) (tVar i):=by
  intro pins s σ H Q I h
  obtain ⟨v,e,h⟩:=h
  obtain ⟨m,hn,hl⟩:=I.loc
  obtain ⟨u,r,l⟩:=hl i x v hN e hv
  have fin:EP X pins σ Q u s:=⟨v,H,I,r,h⟩
  rcases l with ⟨hk,hm⟩ | ⟨hk,c,hc,hcell⟩
  · exact wpAny_Name (wpAny_loadName_local I.ok.kind hk hn hm fin) hd
  · rcases hk with hk | hk
    · exact wpAny_Name (wpAny_loadName_cell I.ok.kind hk hc hcell fin) hd
    · exact wpAny_Name (wpAny_loadName_free I.ok.kind hk hc hcell fin hcd) hd
theorem pe_int {i j pos}:PE X (.Constant (.int i) j pos) (tC (.int i)):=fun _ _ _ H _ I h=>wpAny_Constant_int ⟨.int i,H,I.tok _,⟨_,rfl⟩,h⟩
theorem pe_bl {b j pos}:PE X (.Constant (.bool b) j pos) (tC (.bl b)):=fun _ _ _ H _ I h=>Constant_bool ⟨.bl b,H,I,rfl,h⟩
theorem pe_non {j pos}:PE X (.Constant .none j pos) (tC .non):=fun _ _ _ H _ I h=>Constant_none ⟨.non,H,I,rfl,h⟩
theorem pe_str {x j pos}:PE X (.Constant (.str x) j pos) (tC (.str x)):=fun _ _ _ H _ I h=>Calls.Constant_str ⟨.str x,H,I.tok _,⟨_,rfl⟩,h⟩
def Gl (X:Cx) (x:Str):Prop:=X.env.kindOf x=some .globalImplicit
theorem ld_glob {E:Value→Shared→Prop} {pins:List (Addr×Obj)} {s:Shared} {σ:St} {H:Hp} {x:Str} {u:Value} {pos:Pos} {Q:Value→Shared→Prop} (I:Inv X pins σ H s) (hg:Gl X x) (hm:X.mg x=some u) (h:Q u s)
    (hd:(x==("__debug__" : Str))=false:=by decide):wpAny (model X.prog X.w) X.A (eval (.Name x pos) X.env) Q E s :=
  Calls.Name_function_global I.ok.kind hg (Calls.loadGlobal_global (by rw [I.ok.glob]; exact I.mod.glob.keeps I.bk) hm h) hd
theorem ld_blt {E:Value→Shared→Prop} {pins:List (Addr×Obj)} {s:Shared} {σ:St} {H:Hp} {x:Str} {u:Value} {pos:Pos} {Q:Value→Shared→Prop} (I:Inv X pins σ H s) (hg:Gl X x) (hm:X.mg x=none) (hv:bootBuiltins x=some u) (h:Q u s)
    (hn:x ≠ "__name__" := by decide) (hd:(x==("__debug__" : Str))=false:=by decide):wpAny (model X.prog X.w) X.A (eval (.Name x pos) X.env) Q E s:=by
  obtain ⟨mb,h1,h2⟩:=I.mod.blt
  exact Calls.Name_function_global I.ok.kind hg (Calls.loadGlobal_builtin (by rw [I.ok.glob]; exact I.mod.glob.keeps I.bk) hm (by rw [I.ok.blt]; exact h1.keeps I.bk) ((h2 x hn).trans hv) h) hd
theorem pe_glob {x:Str} {v:V} {u:Value} {pos:Pos} (hg:Gl X x) (hm:X.mg x=some u) (r:RelV v u) (hd:(x==("__debug__" : Str))=false:=by decide):PE X (.Name x pos) (tC v) :=
  fun _ _ _ H _ I h=>ld_glob I hg hm ⟨v,H,I,r,h⟩ hd
theorem pe_bltn {x:Str} {v:V} {u:Value} {pos:Pos} (hg:Gl X x) (hm:X.mg x=none) (hv:bootBuiltins x=some u) (r:RelV v u) (hn:x ≠ "__name__" := by decide) (hd:(x==("__debug__" : Str))=false:=by decide):PE X (.Name x pos) (tC v) :=
  fun _ _ _ H _ I h=>ld_blt I hg hm hv ⟨v,H,I,r,h⟩ hn hd
variable {a b:Expr} {ta tb:TE} {pos:Pos}
def PC (X : Cx) (op : CmpOp) (a b : Expr) (t : TE) : Prop :=
  ∀ (pins:List (Addr×Obj)) (s:Shared) (σ:St) (H:Hp) (Q:VK),Inv X pins σ H s→t σ H Q →
    wpAny (model X.prog X.w) X.A (eval a X.env) (fun v s₁=>wpAny (model X.prog X.w) X.A (eval b X.env) (fun u s₂=>wpAny (model X.prog X.w) X.A (compareOp op v u) (EP X pins σ Q) X.xe s₂) X.xe s₁) X.xe s
def tB (t:TE):TT:=fun σ H Q=>t σ H fun x H1=>∃ c,x=.bl c∧Q c H1
theorem pt_val {e:Expr} {t:TE} (h:PE X e t) (he:∀ whole,isTrue e X.env whole=(do let v ← whole; standAt e.pos; holding [v] (truthy v)):=by intro _; rfl):PT X e (tB t):=by
  intro pins s σ H Q I hw
  refine isTrue_plain (thn (h pins s σ H _ I hw) fun v s1 ⟨x,H1,I1,r1,q1⟩=>?_) (he _)
  obtain ⟨d,rfl,q⟩:=q1
  cases r1
  exact wpAny_truthy_bool ⟨H1,I1,q⟩
variable {tA tB':TT} {rest:List Expr}
def tAnd (t u:TT):TT:=fun σ H Q=>t σ H fun c H1=>if c=true then u σ H1 Q else Q false H1
def tOr (t u:TT):TT:=fun σ H Q=>t σ H fun c H1=>if c=true then Q true H1 else u σ H1 Q
def tNot (t:TT):TT:=fun σ H Q=>t σ H fun c H1=>Q (!c) H1
theorem pw_and1 (ha:PT X a tA):PW X (.BoolOp .And [a] pos) tA:=by
  intro wh pins s σ H Q I h
  refine isTrue_and (thn (ha pins s σ H Q I h) fun c s1 e=>?_)
  cases c with
  | true=>exact isTrue_and_nil e
  | false=>exact e
theorem pw_or1 (ha:PT X a tA):PW X (.BoolOp .Or [a] pos) tA:=by
  intro wh pins s σ H Q I h
  refine isTrue_or (thn (ha pins s σ H Q I h) fun c s1 e=>?_)
  cases c with
  | false=>exact isTrue_or_nil e
  | true=>exact e
theorem pw_and (ha:PT X a tA) (hb:PW X (.BoolOp .And (b::rest) pos) tB'):PW X (.BoolOp .And (a::b::rest) pos) (tAnd tA tB'):=by
  intro wh pins s σ H Q I h
  refine isTrue_and (thn (ha pins s σ H _ I h) fun c s1 ⟨H1,I1,q1⟩=>?_)
  cases c with
  | true=>exact hb wh pins s1 σ H1 Q I1 q1
  | false=>exact ⟨H1,I1,q1⟩
theorem pw_or (ha:PT X a tA) (hb:PW X (.BoolOp .Or (b::rest) pos) tB'):PW X (.BoolOp .Or (a::b::rest) pos) (tOr tA tB'):=by
  intro wh pins s σ H Q I h
  refine isTrue_or (thn (ha pins s σ H _ I h) fun c s1 ⟨H1,I1,q1⟩=>?_)
  cases c with
  | true=>exact ⟨H1,I1,q1⟩
  | false=>exact hb wh pins s1 σ H1 Q I1 q1
theorem pt_not (ha:PT X a tA):PT X (.UnaryOp .Not a pos) (tNot tA):=by
  intro pins s σ H Q I h
  exact isTrue_not (ha pins s σ H (fun c H1=>Q (!c) H1) I h)
def tAndV (ta tb:TE):TE:=fun σ H Q=>ta σ H fun x H1=>∃ c,x=.bl c∧if c=true then tb σ H1 Q else Q (.bl false) H1
theorem pe_one {op} {t:TE} (h:PE X a t):PE X (.BoolOp op [a] pos) t:=fun pins s σ H Q I hw=>BoolOp_one (h pins s σ H Q I hw)
theorem pe_and (ha:PE X a ta) (hb:PE X (.BoolOp .And (b::rest) pos) tb):PE X (.BoolOp .And (a::b::rest) pos) (tAndV ta tb):=by
  intro pins s σ H Q I h
  refine BoolOp_and (thn (ha pins s σ H _ I h) fun v s1 ⟨x,H1,I1,r1,q1⟩=>?_)
  obtain ⟨c,rfl,q1⟩:=q1
  cases r1
  refine wpAny_truthy_bool ?_
  cases c with
  | true=>exact hb pins s1 σ H1 Q I1 q1
  | false=>exact ⟨.bl false,H1,I1,rfl,q1⟩
def tIf (t:TT) (ta tb:TE):TE:=fun σ H Q=>t σ H fun c H1=>if c=true then ta σ H1 Q else tb σ H1 Q
theorem pe_ifExp {c:Expr} (hc:PT X c tA) (ha:PE X a ta) (hb:PE X b tb):PE X (.IfExp c a b pos) (tIf tA ta tb):=by
  intro pins s σ H Q I h
  refine wpAny_IfExp (thn (hc pins s σ H _ I h) fun d s1 ⟨H1,I1,q1⟩=>?_)
  cases d with
  | true=>exact ha pins s1 σ H1 Q I1 q1
  | false=>exact hb pins s1 σ H1 Q I1 q1
end
end L2
namespace L2
open PySem PySem.Spec PyProof.Rows
def SqL (K : PySem.W.Frag) (H : Hp) (a : Addr) (xs : List V) : Prop :=
  Rd H a (.lst xs) ∨
    ∃ (o:Obj) (its:Array Value) (n:Nat),K.lookup a=some o∧o.cls=.type "list" ∧ o.dict=none∧o.data=.seq its n∧its.size≤sizeLine∧Vals xs its.toList
def SqT (K : PySem.W.Frag) (H : Hp) (a : Addr) (xs : List V) : Prop :=
  Rd H a (.tup xs) ∨
    ∃ (o:Obj) (its:Array Value) (n:Nat),K.lookup a=some o∧o.cls=.type "tuple" ∧ o.data=.seq its n∧its.size≤sizeLine∧Vals xs its.toList
def absV:Value→Option V
  | .none=>some .non
  | .bool b=>some (.bl b)
  | .int i _=>some (.int i)
  | .str x _=>some (.str x)
  | .bytes b _=>some (.byt b)
  | .float b _=>some (.flt b)
  | .ref a=>some (.ref a)
  | .type n=>some (.ty n)
  | _=>none
theorem RelV.abs {x:V} {u:Value} (r:RelV x u):absV u=some x:=by
  cases x with
  | non=>cases r; rfl
  | bl _=>cases r; rfl
  | int _=>obtain ⟨t,rfl⟩:=r; rfl
  | str _=>obtain ⟨t,rfl⟩:=r; rfl
  | byt _=>obtain ⟨t,rfl⟩:=r; rfl
  | flt _=>obtain ⟨t,rfl⟩:=r; rfl
  | ref _=>cases r; rfl
  | ty _=>cases r; rfl
theorem RelV.inj {x y:V} {u:Value} (r:RelV x u) (q:RelV y u):x=y:=Option.some.inj (r.abs.symm.trans q.abs)
theorem Vals.inj:∀ {xs ys:List V} {us:List Value},Vals xs us→Vals ys us→xs=ys
  | _,_,_,.nil,.nil=>rfl
  | _,_,_,.cons r t,.cons r' t'=>by rw [r.inj r',Vals.inj t t']
section
variable {X:Cx} {pins:List (Addr×Obj)} {σ:St} {H:Hp} {s:Shared} {a:Addr} {xs ys:List V}
theorem SqL.of {K:PySem.W.Frag} (h:H a=some (.lst xs)):SqL K H a xs:=.inl (.inl h)
theorem SqT.of {K:PySem.W.Frag} (h:H a=some (.tup xs)):SqT K H a xs:=.inl (.inl h)
theorem Inv.list (I:Inv X pins σ H s) (h:SqL X.K H a xs):∃ its:List Value,Vals xs its∧PlainL s.heap a its.toArray∧xs.length≤sizeLine:=by
  rcases h with h | ⟨o,its,n,hk,hc,hd,hs,hz,r⟩
  · obtain ⟨z,its,n,r,e⟩:=h.ok I.hok
    exact ⟨its,r,⟨_,n,e,rfl,rfl,rfl⟩,z⟩
  · refine ⟨its.toList,r,⟨o,n,I.kIn a o hk,hc,hd,by simpa using hs⟩,?_⟩
    have e:=r.length
    simp only [Array.length_toList] at e
    omega
theorem Inv.tuple (I:Inv X pins σ H s) (h:SqT X.K H a xs):∃ its:List Value,Vals xs its∧IsTup s.heap a its.toArray∧xs.length≤sizeLine:=by
  rcases h with h | ⟨o,its,n,hk,hc,hs,hz,r⟩
  · obtain ⟨z,its,r,p⟩:=h.ok I.hok
    exact ⟨its,r,p,z⟩
  · refine ⟨its.toList,r,⟨o,I.kIn a o hk,hc,n,by simpa using hs⟩,?_⟩
    have e:=r.length
    simp only [Array.length_toList] at e
    omega
theorem Inv.list_inj (I:Inv X pins σ H s) (h:SqL X.K H a xs) (h':SqL X.K H a ys):xs=ys:=by
  obtain ⟨its,r,⟨o,n,e,_,_,d⟩,_⟩:=I.list h
  obtain ⟨its',r',⟨o',n',e',_,_,d'⟩,_⟩:=I.list h'
  rw [e] at e'; cases e'
  rw [d] at d'
  injection d' with d1 _
  have:its=its':=by simpa using congrArg Array.toList d1
  subst this
  exact r.inj r'
theorem Inv.tuple_inj (I:Inv X pins σ H s) (h:SqT X.K H a xs) (h':SqT X.K H a ys):xs=ys:=by
  obtain ⟨its,r,⟨o,e,_,n,d⟩,_⟩:=I.tuple h
  obtain ⟨its',r',⟨o',e',_,n',d'⟩,_⟩:=I.tuple h'
  rw [e] at e'; cases e'
  rw [d] at d'
  injection d' with d1 _
  have:its=its':=by simpa using congrArg Array.toList d1
  subst this
  exact r.inj r'
end
abbrev Cx.wish (X:Cx) (E:Value→Shared→Prop):Cx:={ X with xe:=E }
abbrev Cx.nox (X:Cx):Cx:=X.wish fun _ _=>False
theorem Cx.Ok.wish {X:Cx} (ok:X.Ok) (E:Value→Shared→Prop):(X.wish E).Ok :=
  ⟨ok.mod,ok.kind,ok.glob,ok.blt,ok.above,ok.inj,ok.has,ok.cab,ok.hd,ok.frames,ok.stk,ok.exf,ok.bs,ok.bsz,ok.noex,ok.exfs,ok.funs,ok.frf⟩
theorem Cx.Ok.unwish {X:Cx} {E:Value→Shared→Prop} (ok:(X.wish E).Ok):X.Ok :=
  ⟨ok.mod,ok.kind,ok.glob,ok.blt,ok.above,ok.inj,ok.has,ok.cab,ok.hd,ok.frames,ok.stk,ok.exf,ok.bs,ok.bsz,ok.noex,ok.exfs,ok.funs,ok.frf⟩
section
variable {X:Cx} {pins:List (Addr×Obj)} {σ:St} {H:Hp} {s:Shared} {E:Value→Shared→Prop}
theorem Inv.wish (I:Inv X pins σ H s) (E:Value→Shared→Prop):Inv (X.wish E) pins σ H s:=⟨I.ok.wish E,I.os,I.bare,I.base,I.loc,I.cell,I.free,I.freeC,I.pin,I.hok,I.len⟩
theorem Inv.unwish (I:Inv (X.wish E) pins σ H s):Inv X pins σ H s:=⟨I.ok.unwish,I.os,I.bare,I.base,I.loc,I.cell,I.free,I.freeC,I.pin,I.hok,I.len⟩
theorem SP.unwish {D:Ends} {f:Flow} {s':Shared} (h:SP (X.wish E) pins D f s'):SP X pins D f s':=by
  cases f with
  | next=>obtain ⟨σ',H',I,q⟩:=h; exact ⟨σ',H',I.unwish,q⟩
  | brk=>obtain ⟨σ',H',I,q⟩:=h; exact ⟨σ',H',I.unwish,q⟩
  | cont=>obtain ⟨σ',H',I,q⟩:=h; exact ⟨σ',H',I.unwish,q⟩
  | ret u=>obtain ⟨v,σ',H',I,r,q⟩:=h; exact ⟨v,σ',H',I.unwish,r,q⟩
theorem PSs.nox {st:List Stmt} {t:TS} (h:PSs X.nox st t):PSs X st t:=fun pins s σ H D I hw =>
  wpAny_mono (h pins s σ H D (I.wish _) hw) (fun _ _ q=>q.unwish) fun _ _ z=>False.elim z
end
section
variable {X:Cx} {st:Stmt} {rest:List Stmt} {t u:TS} {e:Expr} {te:TE} {pos:Pos}
def tNext:TS:=fun D σ H=>D.nx σ H
def tSeq (t u:TS):TS:=fun D σ H=>t { D with nx:=u D } σ H
theorem pss_nil:PSs X [] tNext:=fun _ _ σ H _ I h=>wpAny_execs_nil ⟨σ,H,I,h⟩
theorem pss_cons (h1:PS X st t) (h2:PSs X rest u):PSs X (st::rest) (tSeq t u):=by
  intro pins s σ H D I h
  refine wpAny_execs_cons (thn (h1 pins s σ H { D with nx:=u D } I h) fun f s1 q=>?_)
  cases f with
  | next =>
    obtain ⟨σ',H',I',q⟩:=q
    exact h2 pins s1 σ' H' D I' q
  | ret v=>exact q
  | brk=>exact q
  | cont=>exact q
theorem pss_one (h1:PS X st t):PSs X [st] t:=by
  intro pins s σ H D I h
  refine wpAny_execs_cons (thn (h1 pins s σ H D I h) fun f s1 q=>?_)
  cases f with
  | next=>exact wpAny_execs_nil q
  | ret v=>exact q
  | brk=>exact q
  | cont=>exact q
theorem Inv.quiet {pins:List (Addr×Obj)} {σ:St} {H:Hp} {s:Shared} (I:Inv X pins σ H s):interactive X.env=false:=by simp [interactive,I.ok.kind]
def tDrop (te:TE):TS:=fun D σ H=>te σ H fun _ H1=>D.nx σ H1
theorem ps_expr (he:PE X e te) (hs:swapsWith e none pos.line X.env=pure false:=by rfl):PS X (.Expr e pos) (tDrop te):=by
  intro pins s σ H D I h
  exact wpAny_Expr_any (thn (he pins s σ H _ I h) fun v s1 ⟨x,H1,I1,r1,q1⟩=>⟨σ,H1,I1,q1⟩) I.quiet hs
def tRet (te:TE):TS:=fun D σ H=>te σ H D.rt
theorem ps_ret (he:PE X e te):PS X (.Return (some e) pos) (tRet te):=by
  intro pins s σ H D I h
  exact wpAny_Return_some (thn (he pins s σ H _ I h) fun v s1 ⟨x,H1,I1,r1,q1⟩=>⟨x,σ,H1,I1,r1,q1⟩)
def tIfS (c:TT) (t u:TS):TS:=fun D σ H=>c σ H fun b H1=>if b=true then t D σ H1 else u D σ H1
theorem ps_if {c:Expr} {a b:List Stmt} {tc:TT} (hc:PT X c tc) (ha:PSs X a t) (hb:PSs X b u):PS X (.If c a b pos) (tIfS tc t u):=by
  intro pins s σ H D I h
  refine wpAny_If (thn (hc pins s σ H _ I h) fun d s1 ⟨H1,I1,q1⟩=>?_)
  cases d with
  | true=>exact ha pins s1 σ H1 D I1 q1
  | false=>exact hb pins s1 σ H1 D I1 q1
end
abbrev TG:=V→St→Hp→(St→Hp→Prop)→Prop
abbrev TGs:=List V→St→Hp→(St→Hp→Prop)→Prop
def PG (X : Cx) (target : Expr) (t : TG) : Prop :=
  ∀ (pins:List (Addr×Obj)) (s:Shared) (σ:St) (H:Hp) (v:V) (u:Value) (Q:St→Hp→Prop),Inv X pins σ H s→RelV v u→t v σ H Q →
    wpAny (model X.prog X.w) X.A (assign target X.env u) (fun _ s'=>∃ σ' H',Inv X pins σ' H' s'∧Q σ' H') X.xe s
def PGs (X : Cx) (ts : List Expr) (t : TGs) : Prop :=
  ∀ (pins:List (Addr×Obj)) (s:Shared) (σ:St) (H:Hp) (vs:List V) (us:List Value) (Q:St→Hp→Prop),Inv X pins σ H s→Vals vs us→t vs σ H Q →
    wpAny (model X.prog X.w) X.A (assignInOrder ((assignEach ts X.env).map (·.2)) us) (fun _ s'=>∃ σ' H',Inv X pins σ' H' s'∧Q σ' H') X.xe s
abbrev TIp:=V→V→Hp→VK→Prop
def PIp (X : Cx) (op : Operator) (t : TIp) : Prop :=
  ∀ (pins:List (Addr×Obj)) (s:Shared) (σ:St) (H:Hp) (x y:V) (v u:Value) (Q:VK),Inv X pins σ H s→RelV x v→RelV y u→t x y H Q →
    wpAny (model X.prog X.w) X.A (inplaceOp op v u) (EP X pins σ Q) X.xe s
section
variable {X:Cx} {pos:Pos}
def gName (i:Nat):TG:=fun v σ H Q=>Q (σ.set i (some v)) H
theorem pg_name {i:Nat} {x:Str} (hN:X.N.Nodup) (hi:X.N[i]?=some x) (hx:Loc X.env.scope x) (hf:X.fn x=true∨X.env.scope.names.lookup x=some .local:=by first | exact .inl rfl | exact .inr rfl | assumption):PG X (.Name x pos) (gName i):=by
  intro pins s σ H v u Q I r h
  exact wpAny_assign_Name (store_ok I hN hi hx r (fun s' I'=>⟨_,H,I',h⟩) hf)
def tAsg (te:TE) (g:TG):TS:=fun D σ H=>te σ H fun x H1=>g x σ H1 D.nx
theorem ps_set {i:Nat} {x:Str} {e:Expr} {te:TE} {pos':Pos} (hN:X.N.Nodup) (hi:X.N[i]?=some x) (hx:Loc X.env.scope x) (he:PE X e te) (hs:swapsWith e (some (.Name x pos')) pos.line X.env=pure false:=by rfl) (hf:X.fn x=true∨X.env.scope.names.lookup x=some .local:=by first | exact .inl rfl | exact .inr rfl | assumption) :
    PS X (.Assign [.Name x pos'] e pos) (tAsg te (gName i)):=by
  intro pins s σ H D I h
  refine wpAny_Assign_Name (thn (he pins s σ H _ I h) fun v s1 ⟨y,H1,I1,r1,q1⟩=>?_) hs
  exact store_ok I1 hN hi hx r1 (fun s2 I2=>⟨_,H1,I2,q1⟩) hf
def tAug (i:Nat) (te:TE) (ti:TIp):TS:=fun D σ H=>∃ x,σ[i]?=some (some x)∧te σ H fun y H1=>ti x y H1 fun z H2=>D.nx (σ.set i (some z)) H2
theorem ps_aug {i:Nat} {x:Str} {e:Expr} {te:TE} {op:Operator} {ti:TIp} {pos':Pos} (hN:X.N.Nodup) (hi:X.N[i]?=some x) (hx:Loc X.env.scope x) (he:PE X e te) (ho:PIp X op ti) (hf:X.fn x=true∨X.env.scope.names.lookup x=some .local:=by first | exact .inl rfl | exact .inr rfl | assumption) :
    PS X (.AugAssign (.Name x pos') op e pos) (tAug i te ti):=by
  intro pins s σ H D I h
  obtain ⟨v,e1,h⟩:=h
  obtain ⟨m,hn,hl⟩:=I.loc
  have vis:Vis X.env.scope x:=by rcases hx with k | k; exact .inl k; exact .inr (.inl k)
  obtain ⟨u,r,l⟩:=hl i x v hi e1 vis
  refine wpAny_AugAssign_Name ?_
  have go:wpAny (model X.prog X.w) X.A (eval e X.env) (fun w s₂=>wpAny (model X.prog X.w) X.A (inplaceOp op u w) (fun r s₃=>wpAny (model X.prog X.w) X.A (storeName X.env x r) (fun _=>SP X pins D .next) X.xe s₃) X.xe s₂) X.xe s:=by
    refine thn (he pins s σ H _ I h) fun w s1 ⟨y,H1,I1,r1,q1⟩=>?_
    refine thn (ho pins s1 σ H1 v y u w _ I1 r r1 q1) fun z s2 ⟨zv,H2,I2,r2,q2⟩=>?_
    exact store_ok I2 hN hi hx r2 (fun s3 I3=>⟨_,H2,I3,q2⟩) hf
  rcases l with ⟨hk,hm⟩ | ⟨hk,c,hc,hcell⟩
  · exact wpAny_loadName_local I.ok.kind hk hn hm go
  · rcases hk with hk | hk
    · exact wpAny_loadName_cell I.ok.kind hk hc hcell go
    · rcases hx with k | k
      · have:X.env.scope.names.lookup x=some .free:=hk
        rw [k] at this; cases this
      · have:X.env.scope.names.lookup x=some .free:=hk
        rw [k] at this; cases this
def ipI (f:Int→Int→Int):TIp:=fun x y H Q=>∃ i j,x=.int i∧y=.int j∧Q (.int (f i j)) H
theorem ip_add:PIp X .Add (ipI fun i j=>i+j):=by
  intro pins s σ H x y v u Q I r1 r2 h
  obtain ⟨i,j,e1,e2,q⟩:=h
  subst e1; subst e2
  obtain ⟨t,rfl⟩:=r1
  obtain ⟨t',rfl⟩:=r2
  exact iadd_int ⟨.int _,H,I.tok _,⟨_,rfl⟩,q⟩
end
section
variable {X:Cx} {pos:Pos}
def tWhile (c:TT) (tb:TS):TS:=fun D σ H=>∃ W:Nat→St→Hp→Prop,(∃ m,W m σ H)∧∀ m σ H,W m σ H →
  c σ H fun b H1=>if b=true then ∃ N:St→Hp→Prop,(∀ σ' H',N σ' H'→∃ m',m'<m∧W m' σ' H')∧tb { D with nx:=N,ct:=N,bk:=D.nx } σ H1 else D.nx σ H1
theorem ps_while {c:Expr} {body:List Stmt} {tc:TT} {tb:TS} (hp:PassesOwn (model X.prog X.w) X.A X.env X.xe) (hc:PT X c tc) (hb:PSs X body tb):PS X (.While c body [] pos) (tWhile tc tb):=by
  intro pins s σ H D I h
  obtain ⟨W,⟨m0,w0⟩,turn⟩:=h
  refine wpAny_While (codeAny_whileLoop (fun n s'=>∃ σ' H',Inv X pins σ' H' s'∧W n σ' H') ?_ m0 ⟨σ,H,I,w0⟩)
  rintro n s1 ⟨σ1,H1,I1,w1⟩
  refine wpAny_passesOwn hp (thn (hc pins s1 σ1 H1 _ I1 (turn n σ1 H1 w1)) fun b s2 ⟨H2,I2,q2⟩=>?_)
  cases b with
  | true =>
    obtain ⟨N,hN,q2⟩:=q2
    rw [if_pos rfl]
    refine wpAny_passesOwn hp (thn (hb pins s2 σ1 H2 _ I2 q2) fun f s3 q3=>?_)
    cases f with
    | next =>
      obtain ⟨σ3,H3,I3,n3⟩:=q3
      obtain ⟨m',hm,w3⟩:=hN σ3 H3 n3
      exact ⟨m',hm,σ3,H3,I3,w3⟩
    | cont =>
      obtain ⟨σ3,H3,I3,n3⟩:=q3
      obtain ⟨m',hm,w3⟩:=hN σ3 H3 n3
      exact ⟨m',hm,σ3,H3,I3,w3⟩
    | brk=>exact q3
    | ret v=>exact q3
  | false =>
    rw [if_neg Bool.false_ne_true]
    exact wpAny_execs_nil ⟨σ1,H2,I2,q2⟩
end
structure It where
  go:Nat→Hp→Prop
  yld:Nat→Hp→V→Hp→Prop
  stop:Nat→Hp→Prop
def FpOk (X:Cx) (pins:List (Addr×Obj)) (H:Hp) (b:Addr):Prop :=
  H b=none∧b≠X.env.locals∧b∉X.fs∧(b∈X.ex∨X.s₀.heap.objs.size≤b)∧(∀ x c,X.env.cells.lookup x=some c→c≠b)∧∀ p∈X.pn++pins,p.1≠b
theorem Inv.fpOk {X:Cx} {pins:List (Addr×Obj)} {σ:St} {H H':Hp} {s:Shared} {b:Addr} (I:Inv X pins σ H s) (hb:s.heap.objs.size≤b) (hn:H' b=none):FpOk X pins H' b:=by
  refine ⟨hn,Nat.ne_of_gt (Nat.lt_of_lt_of_le I.lt hb),I.nofs hb,.inr (Nat.le_trans I.sz hb),fun x c e z=>?_,fun p hp z=>?_⟩
  · obtain ⟨v,q⟩:=I.cell x c e
    exact absurd (Nat.lt_of_lt_of_le q.lt (by rw [z]; exact hb)) (Nat.lt_irrefl _)
  · exact absurd (Nat.lt_of_lt_of_le (Heap.lt_size (I.pin p hp).1) (by rw [z]; exact hb)) (Nat.lt_irrefl _)
structure Turn (P:Program) (w:World) (K:PySem.W.Frag) (tg:Expr) (J:It) (fp:List Addr) (it:Addr) (tn:Nat→Heap→Prop):Prop where
  mem:it∈fp
  obj:∀ i h,tn i h→∀ b∈fp,∃ o,h.get? b=some o∧∀ v,o.data≠.cell v
  keep:∀ i h h',tn i h→(∀ b∈fp,∀ o,h.get? b=some o→h'.get? b=some o)→tn i h'
  item:∀ (X:Cx),X.prog=P→X.w=w→X.K=K→X.calm=true→∀ (i:Nat) (pins:List (Addr×Obj)) (s:Shared) (σ:St) (H:Hp) (E:Value→Shared→Prop),Inv X pins σ H s→(∀ b∈fp,FpOk X pins H b)→tn i s.heap→J.go i H →
    wpAny (model P w) X.A (pyNext (.ref it)) (fun r s1=>∃ u,r=some u ∧
      wpAny (model P w) X.A (letOwnedTupleGo tg (.ref it) u) (fun _ s2=>∃ x H',Inv X pins σ H' s2∧RelV x u∧J.yld i H x H'∧tn (i+1) s2.heap∧∀ b∈fp,H' b=none) E s1) E s
  done:∀ (X:Cx),X.prog=P→X.w=w→X.K=K→X.calm=true→∀ (i:Nat) (pins:List (Addr×Obj)) (s:Shared) (σ:St) (H:Hp) (E:Value→Shared→Prop),Inv X pins σ H s→(∀ b∈fp,FpOk X pins H b)→tn i s.heap→J.stop i H →
    wpAny (model P w) X.A (pyNext (.ref it)) (fun r s1=>r=none∧Inv X pins σ H s1) E s
  self:∀ (A:Around) (i:Nat) (s:Shared) (Q:Value→Shared→Prop) (E:Value→Shared→Prop),tn i s.heap→Q (.ref it) s→wpAny (model P w) A (pyIter (.ref it)) Q E s
abbrev TI:=St→Hp→(It→Hp→Prop)→Prop
def PIE (X:Cx) (pins:List (Addr×Obj)) (σ:St) (tg:Expr) (R:It→Hp→Prop) (itv:Value) (s2:Shared):Prop :=
  ∃ (it:Addr) (fp:List Addr) (tn:Nat→Heap→Prop) (J:It) (H':Hp),itv=.ref it∧Inv X pins σ H' s2∧Turn X.prog X.w X.K tg J fp it tn∧tn 0 s2.heap∧(∀ b∈fp,FpOk X pins H' b)∧R J H'
def PI (X : Cx) (tg iter : Expr) (wi : TI) : Prop :=
  ∀ (pins:List (Addr×Obj)) (s:Shared) (σ:St) (H:Hp) (R:It→Hp→Prop),Inv X pins σ H s→wi σ H R →
    wpAny (model X.prog X.w) X.A (eval iter X.env) (fun v s1=>wpAny (model X.prog X.w) X.A (pyIter v) (PIE X pins σ tg R) X.xe s1) X.xe s
theorem go_of {M : Model} {A : Around} {E : Value → Shared → Prop} {s : Shared} {tg : Expr} {it : Addr} {u : Value} {o : Obj} {n : String} {vs : Array Value} {Q : Unit → Shared → Prop} (ho : s.heap.get? it = some o) (hc : o.cls = .type n) (hd : o.data = .fields vs)
    (hn:["enumerate", "zip", "dict_itemiterator", "dict_reverseitemiterator", "odict_iterator", "itertools.zip_longest", "itertools.pairwise"].contains n=false) (hQ:Q () s):wpAny M A (letOwnedTupleGo tg (.ref it) u) Q E s:=by
  unfold letOwnedTupleGo
  cases tg <;> first
    | exact wpAny_pure hQ
    | (cases u <;> first
        | exact wpAny_pure hQ
        | (refine wpAny_bind (wpAny_load ho ?_)
           rw [hc,hd]
           show wpAny M A (if (["enumerate", "zip", "dict_itemiterator", "dict_reverseitemiterator", "odict_iterator", "itertools.zip_longest", "itertools.pairwise"].contains n && vs[0]?==some (rawInt _))=true then _ else _) Q E s
           rw [if_neg (by intro h; rw [hn,Bool.false_and] at h; cases h)]
           exact wpAny_pure hQ))
def Itl (K:PySem.W.Frag) (a:Addr):It :=
  ⟨fun i H=>∃ xs x,SqL K H a xs∧xs[i]?=some x,fun i H x H'=>H'=H∧∀ xs,SqL K H a xs→xs[i]?=some x,fun i H=>∃ xs,SqL K H a xs∧xs.length≤i⟩
def Itt (K:PySem.W.Frag) (a:Addr):It :=
  ⟨fun i H=>∃ xs x,SqT K H a xs∧xs[i]?=some x,fun i H x H'=>H'=H∧∀ xs,SqT K H a xs→xs[i]?=some x,fun i H=>∃ xs,SqT K H a xs∧xs.length≤i⟩
def Itr (lo:Int) (n:Nat):It:=⟨fun i _=>i<n,fun i H x H'=>H'=H∧x=.int (lo+i),fun i _=>n≤i⟩
theorem turn_list {P:Program} {w:World} {K:PySem.W.Frag} {tg:Expr} (a it:Addr):Turn P w K tg (Itl K a) [it] it (fun i h=>h.IsListIter it a i) where
  mem:=by simp
  obj:=fun i h st b hb=>by
    have e:b=it:=by simpa using hb
    subst e
    obtain ⟨o,e,c,d⟩:=st
    exact ⟨o,e,fun v z=>by rw [d] at z; cases z⟩
  keep:=fun i h h' st k=>st.at fun o e=>k it (by simp) o e
  item:=by
    intro X hP hw hK hc i pins s σ H E I hf st hg
    subst hP hw hK
    obtain ⟨xs,x,hq,hx⟩:=hg
    obtain ⟨its,rv,p,hz⟩:=I.list hq
    obtain ⟨u,hu,ru⟩:=rv.get hx
    obtain ⟨f0,f1,f2,f3,f4,f5⟩:=hf it (by simp)
    refine wpAny_pyNext_list_item st p.isList (x:=u) (by simpa using hu) fun h' st' sb=>?_
    have I1:Inv X pins σ H { s with heap:=h' }:=I.turned (t':=s.toks) (fun b o hb e=>(sb.2 b hb).trans e) f0 f1 f3 f4 f5
    obtain ⟨o,e,c,d⟩:=id st'
    exact ⟨u,rfl,go_of (s:={ s with heap:=h' }) e c d (by decide) ⟨x,H,I1,ru,⟨rfl,fun ys hy=>by rw [I.list_inj hy hq]; exact hx⟩,st',fun b hb=>(hf b hb).1⟩⟩
  done:=by
    intro X hP hw hK hc i pins s σ H E I hf st hg
    subst hP hw hK
    obtain ⟨xs,hq,hx⟩:=hg
    obtain ⟨its,rv,p,hz⟩:=I.list hq
    obtain ⟨f0,f1,f2,f3,f4,f5⟩:=hf it (by simp)
    have hl:=rv.length
    exact next_list_end (I.hb hc) (I.hna hc f3 f5) st p.isList (by simp; omega) fun h' eb=>⟨rfl,I.turned (t':=s.toks) (fun b o hb e=>eb b o hb e) f0 f1 f3 f4 f5⟩
  self:=fun _ _ _ _ _ st h=>wpAny_pyIter_listiter st h
theorem turn_tuple {P:Program} {w:World} {K:PySem.W.Frag} {tg:Expr} (a it:Addr):Turn P w K tg (Itt K a) [it] it (fun i h=>h.IsTupleIter it a i) where
  mem:=by simp
  obj:=fun i h st b hb=>by
    have e:b=it:=by simpa using hb
    subst e
    obtain ⟨o,e,c,d⟩:=st
    exact ⟨o,e,fun v z=>by rw [d] at z; cases z⟩
  keep:=fun i h h' st k=>st.at fun o e=>k it (by simp) o e
  item:=by
    intro X hP hw hK hc i pins s σ H E I hf st hg
    subst hP hw hK
    obtain ⟨xs,x,hq,hx⟩:=hg
    obtain ⟨its,rv,p,hz⟩:=I.tuple hq
    obtain ⟨u,hu,ru⟩:=rv.get hx
    obtain ⟨f0,f1,f2,f3,f4,f5⟩:=hf it (by simp)
    refine wpAny_pyNext_tuple_item st (show s.heap.IsTuple a its.toArray from p) (x:=u) (by simpa using hu) fun h' st' sb=>?_
    have I1:Inv X pins σ H { s with heap:=h' }:=I.turned (t':=s.toks) (fun b o hb e=>(sb.2 b hb).trans e) f0 f1 f3 f4 f5
    obtain ⟨o,e,c,d⟩:=id st'
    exact ⟨u,rfl,go_of (s:={ s with heap:=h' }) e c d (by decide) ⟨x,H,I1,ru,⟨rfl,fun ys hy=>by rw [I.tuple_inj hy hq]; exact hx⟩,st',fun b hb=>(hf b hb).1⟩⟩
  done:=by
    intro X hP hw hK hc i pins s σ H E I hf st hg
    subst hP hw hK
    obtain ⟨xs,hq,hx⟩:=hg
    obtain ⟨its,rv,p,hz⟩:=I.tuple hq
    obtain ⟨f0,f1,f2,f3,f4,f5⟩:=hf it (by simp)
    have hl:=rv.length
    exact next_tuple_end (I.hb hc) (I.hna hc f3 f5) st (show s.heap.IsTuple a its.toArray from p) (by simp; omega) fun h' eb=>⟨rfl,I.turned (t':=s.toks) (fun b o hb e=>eb b o hb e) f0 f1 f3 f4 f5⟩
  self:=fun _ _ _ _ _ st h=>wpAny_pyIter_tupleiter st h
theorem turn_range {P:Program} {w:World} {K:PySem.W.Frag} {tg:Expr} (it:Addr) (lo:Int) (n:Nat):Turn P w K tg (Itr lo n) [it] it (fun i h=>IsRangeIter h it (lo+(i:Nat)*1) ((n:Int)-(i:Nat)) 1) where
  mem:=by simp
  obj := fun i h st b hb => by
    have e:b=it:=by simpa using hb
    subst e
    exact ⟨_,st,fun v z=>by
      have z':Data.fields _=Data.cell v:=z
      cases z'⟩
  keep:=fun i h h' st k=>k it (by simp) _ st
  item:=by
    intro X hP hw hK hc i pins s σ H E I hf st hg
    subst hP hw hK
    obtain ⟨f0,f1,f2,f3,f4,f5⟩:=hf it (by simp)
    refine range_item hg st fun v h' tk hv st' kk=>?_
    obtain ⟨t,rfl⟩:=hv
    have I1:Inv X pins σ H { s with heap:=h',toks:=tk }:=I.turned (fun b o hb e=>kk b o (by simpa using hb) e) f0 f1 f3 f4 f5
    refine ⟨_,rfl,go_of (s:={ s with heap:=h',toks:=tk }) (n := "range_iterator") st' rfl rfl (by decide) ⟨.int (lo+i),H,I1,⟨t,?_⟩,⟨rfl,rfl⟩,st',fun b hb=>(hf b hb).1⟩⟩
    rw [Int.mul_one]
  done:=by
    intro X hP hw hK hc i pins s σ H E I hf st hg
    subst hP hw hK
    obtain ⟨f0,f1,f2,f3,f4,f5⟩:=hf it (by simp)
    exact next_range_end (I.hb hc) st (by have:n≤i:=hg; omega) fun h' eb=>⟨rfl,I.turned (t':=s.toks) (fun b o hb e=>eb b o hb e) f0 f1 f3 f4 f5⟩
  self:=fun _ _ _ _ _ st h=>wpAny_pyIter_rangeiter st h
end L2
namespace L2
open PySem PySem.Spec PyProof.Rows
section
variable {X:Cx} {tg:Expr}
def iList (K:PySem.W.Frag) (tl:TE):TI:=fun σ H R=>tl σ H fun x H1=>∃ a,x=.ref a∧(∃ xs,SqL K H1 a xs)∧R (Itl K a) H1
def iTup (K:PySem.W.Frag) (tl:TE):TI:=fun σ H R=>tl σ H fun x H1=>∃ a,x=.ref a∧(∃ xs,SqT K H1 a xs)∧R (Itt K a) H1
theorem pi_list {l:Expr} {tl:TE} (hl:PE X l tl):PI X tg l (iList X.K tl):=by
  intro pins s σ H R I h
  refine thn (hl pins s σ H _ I h) fun v s1 ⟨x,H1,I1,r1,q1⟩=>?_
  obtain ⟨a,e,⟨xs,hq⟩,q⟩:=q1
  subst e
  cases r1
  obtain ⟨its,rv,p,hz⟩:=I1.list hq
  refine wpAny_pyIter_list p.isList ?_
  refine ⟨s1.heap.objs.size,[s1.heap.objs.size],_,_,H1,rfl,I1.kept (t':=s1.toks) fun b o e=>Heap.get?_push_of_some _ e,turn_list a _,⟨_,Heap.get?_push_size _ rfl,rfl,rfl⟩,fun b hb=>?_,q⟩
  have e:b=s1.heap.objs.size:=by simpa using hb
  subst e
  exact I1.fpOk (Nat.le_refl _) (I1.hok.fresh (Nat.le_refl _))
theorem pi_tup {l:Expr} {tl:TE} (hl:PE X l tl):PI X tg l (iTup X.K tl):=by
  intro pins s σ H R I h
  refine thn (hl pins s σ H _ I h) fun v s1 ⟨x,H1,I1,r1,q1⟩=>?_
  obtain ⟨a,e,⟨xs,hq⟩,q⟩:=q1
  subst e
  cases r1
  obtain ⟨its,rv,p,hz⟩:=I1.tuple hq
  refine wpAny_pyIter_tuple (show s1.heap.IsTuple a its.toArray from p) ?_
  refine ⟨s1.heap.objs.size,[s1.heap.objs.size],_,_,H1,rfl,I1.kept (t':=s1.toks) fun b o e=>Heap.get?_push_of_some _ e,turn_tuple a _,⟨_,Heap.get?_push_size _ rfl,rfl,rfl⟩,fun b hb=>?_,q⟩
  have e:b=s1.heap.objs.size:=by simpa using hb
  subst e
  exact I1.fpOk (Nat.le_refl _) (I1.hok.fresh (Nat.le_refl _))
theorem range_it {pins:List (Addr×Obj)} {σ:St} {H:Hp} {s:Shared} {R:It→Hp→Prop} {E:Value→Shared→Prop} {lo hi:Int} {t u v:Tok} {tk:Nat} (I:Inv X pins σ H s) (h1:-(2 ^ 62)≤lo) (h2:lo<2 ^ 62) (h3:-(2 ^ 62)≤hi) (h4:hi<2 ^ 62)
    (q:R (Itr lo (hi-lo).toNat) H):wpAny (model X.prog X.w) X.A (pyIter (.ref s.heap.objs.size)) (PIE X pins σ tg R) E { s with heap:=s.heap.push { cls:=.type "range",data:=.fields #[.int lo t,.int hi u,.int 1 v] },toks:=tk }:=by
  refine wpAny_pyIter_range (IsRange.new ..) (small_one h1 h2 h3 h4) ?_
  have I1:Inv X pins σ H { s with heap:=s.heap.push { cls:=.type "range",data:=.fields #[.int lo t,.int hi u,.int 1 v] },toks:=tk }:=I.kept fun b o e=>Heap.get?_push_of_some _ e
  refine ⟨(s.heap.push { cls:=.type "range",data:=.fields #[.int lo t,.int hi u,.int 1 v] }).objs.size,[(s.heap.push { cls:=.type "range",data:=.fields #[.int lo t,.int hi u,.int 1 v] }).objs.size],_,_,H,rfl,
    I1.kept (t':=tk) fun b o e=>Heap.get?_push_of_some _ e,turn_range _ lo (hi-lo).toNat,?_,fun b hb=>?_,q⟩
  · have e1:lo+((0:Nat):Int)*1=lo:=by simp
    have e2:(((hi-lo).toNat:Nat):Int)-((0:Nat):Int)=Builtin.Range.rangeSize lo hi 1:=by rw [rangeSize_one]; split <;> omega
    show IsRangeIter _ _ (lo+((0:Nat):Int)*1) ((((hi-lo).toNat:Nat):Int)-((0:Nat):Int)) 1
    rw [e1,e2]
    exact Heap.get?_push_size _ rfl
  · have e:b=(s.heap.push { cls:=.type "range",data:=.fields #[.int lo t,.int hi u,.int 1 v] }).objs.size:=by simpa using hb
    subst e
    exact I1.fpOk (Nat.le_refl _) (I1.hok.fresh (Nat.le_refl _))
def iRng1 (ta:TA):TI:=fun σ H R=>ta σ H fun vs H1=>∃ j:Int,vs=[.int j]∧-(2 ^ 62)≤j∧j<2 ^ 62∧R (Itr 0 j.toNat) H1
theorem pi_range1 {a:Expr} {ta:TA} {p pos:Pos} (hg:Gl X "range") (hm:X.mg "range" = none) (ha:PA X [a] ta) (hs:starEach [a] X.env=[(false,eval a X.env)]:=by rfl):PI X tg (.Call (.Name "range" p) [a] [] pos) (iRng1 ta):=by
  intro pins s σ H R I h
  refine Call_ (ld_blt I hg hm boot_range (PyProof.Rows.callWith_type1 (thn (ha pos pins s σ H _ I h) fun us s1 ⟨vs,H1,I1,r1,q1⟩=>?_) hs rfl))
  obtain ⟨j,e,q1,q2,q⟩:=q1
  subst e
  cases r1 with
  | cons r rr =>
    cases rr
    obtain ⟨t,rfl⟩:=r
    exact call_range_1 (range_it I1 (by omega) (by omega) q1 q2 (by simpa using q))
def tFor (wi:TI) (g:TG) (tb:TS):TS:=fun D σ H=>wi σ H fun J H1=>∃ W:Nat→Nat→St→Hp→Prop,(∃ m,W 0 m σ H1)∧∀ i m σ H,W i m σ H →
  (J.stop i H∧D.nx σ H)∨(J.go i H∧∃ N:St→Hp→Prop,(∀ σ' H',N σ' H'→∃ m',m'<m∧W (i+1) m' σ' H')∧∀ x H',J.yld i H x H'→g x σ H' fun σ2 H2=>tb { D with nx:=N,ct:=N,bk:=D.nx } σ2 H2)
def pinsAt (fp:List Addr) (h:Heap):List (Addr×Obj):=fp.filterMap fun b=>(h.get? b).map fun o=>(b,o)
theorem mem_pinsAt {fp:List Addr} {h:Heap} {b:Addr} {o:Obj} (hb:b∈fp) (e:h.get? b=some o):(b,o)∈pinsAt fp h:=List.mem_filterMap.mpr ⟨b,hb,by rw [e]; rfl⟩
theorem of_pinsAt {fp:List Addr} {h:Heap} {p:Addr×Obj} (hp:p∈pinsAt fp h):p.1∈fp∧h.get? p.1=some p.2:=by
  obtain ⟨b,hb,e⟩:=List.mem_filterMap.mp hp
  cases q:h.get? b with
  | none=>rw [q] at e; cases e
  | some o =>
    rw [q] at e
    have e':(b,o)=p:=Option.some.inj e
    subst e'
    exact ⟨hb,q⟩
theorem Inv.pinned {pins:List (Addr×Obj)} {σ:St} {H:Hp} {s:Shared} {fp:List Addr} (I:Inv X pins σ H s) (hf:∀ b∈fp,FpOk X pins H b) (ho:∀ b∈fp,∃ o,s.heap.get? b=some o∧∀ v,o.data≠.cell v):Inv X (pins++pinsAt fp s.heap) σ H s :=
  I.pins_of fun p hp=>(List.mem_append.mp hp).elim (fun z=>I.pin p (List.mem_append_right _ z)) fun z=>by
    obtain ⟨hb,e⟩:=of_pinsAt z
    obtain ⟨f0,f1,f2,_⟩:=hf p.1 hb
    obtain ⟨o,e',d⟩:=ho p.1 hb
    rw [e] at e'; cases e'
    exact ⟨e,f0,f1,f2,d⟩
theorem Inv.unpinned {pins pl:List (Addr×Obj)} {σ:St} {H:Hp} {s:Shared} (I:Inv X (pins++pl) σ H s):Inv X pins σ H s:=I.pins_of fun p hp=>I.pin p (List.mem_append_right _ (List.mem_append_left _ hp))
theorem ps_for {iter:Expr} {body:List Stmt} {wi:TI} {g:TG} {tb:TS} {pos:Pos} (hp:PassesOwn (model X.prog X.w) X.A X.env X.xe) (hc:X.calm=true) (hi:PI X tg iter wi) (hg:PG X tg g) (hb:PSs X body tb)
    (hs:∀ x,foldedSetIterable iter X.env x=pure x:=by intro _; rfl):PS X (.For tg iter body [] pos) (tFor wi g tb):=by
  intro pins s σ H D I h
  refine wpAny_For (thn (hi pins s σ H _ I h) fun v s1 h1=>thn h1 fun itv s2 h2=>?_) hs
  obtain ⟨it,fp,tn,J,H2,e,I2,T,st2,f2,W,⟨m0,w0⟩,turn⟩:=h2
  subst e
  -- what stays true of the iterator's objects through the loop
  have stat:∀ {H':Hp},(∀ b∈fp,H' b=none)→∀ b∈fp,FpOk X pins H' b:=fun hn b hb=>⟨hn b hb,(f2 b hb).2⟩
  refine codeAny_forLoop_any (fun n s'=>∃ i σ' H',Inv X pins σ' H' s'∧tn i s'.heap∧(∀ b∈fp,H' b=none)∧W i n σ' H') ?_ m0 ⟨0,σ,H2,I2,st2,fun b hb=>(f2 b hb).1,w0⟩
  rintro n s3 ⟨i,σ3,H3,I3,st3,fr3,w3⟩
  rcases turn i n σ3 H3 w3 with ⟨stop,qn⟩ | ⟨go,N,hN,step⟩
  · refine wpAny_passesOwn hp (thn (T.done X rfl rfl rfl hc i pins s3 σ3 H3 X.xe I3 (stat fr3) st3 stop) fun r s4 ⟨hr,I4⟩=>?_)
    subst hr
    exact wpAny_execs_nil ⟨σ3,H3,I4,qn⟩
  · refine wpAny_passesOwn hp (thn (T.item X rfl rfl rfl hc i pins s3 σ3 H3 X.xe I3 (stat fr3) st3 go) fun r s4 ⟨u,hr,h4⟩=>?_)
    subst hr
    refine wpAny_passesOwn hp (thn h4 fun _ s5 ⟨x,H5,I5,r5,y5,st5,fr5⟩=>?_)
    have I5':=I5.pinned (stat fr5) (T.obj _ _ st5)
    refine wpAny_passesOwn hp (thn (hg _ s5 σ3 H5 x u _ I5' r5 (step x H5 y5)) fun _ s6 ⟨σ6,H6,I6,q6⟩=>?_)
    refine wpAny_passesOwn hp (thn (hb _ s6 σ6 H6 _ I6 q6) fun f s7 q7=>?_)
    have again:∀ {σ7:St} {H7:Hp},Inv X (pins++pinsAt fp s5.heap) σ7 H7 s7→N σ7 H7→∃ m,m<n∧∃ i σ' H',Inv X pins σ' H' s7∧tn i s7.heap∧(∀ b∈fp,H' b=none)∧W i m σ' H':=fun {σ7 H7} I7 n7=>by
      obtain ⟨m',hm,w7⟩:=hN σ7 H7 n7
      refine ⟨m',hm,i+1,σ7,H7,I7.unpinned,T.keep _ _ _ st5 fun b hb o e=>(I7.pin (b,o) (List.mem_append_right _ (List.mem_append_right _ (mem_pinsAt hb e)))).1,fun b hb=>?_,w7⟩
      obtain ⟨o,e,d⟩:=T.obj _ _ st5 b hb
      exact (I7.pin (b,o) (List.mem_append_right _ (List.mem_append_right _ (mem_pinsAt hb e)))).2.1
    cases f with
    | next=>obtain ⟨σ7,H7,I7,n7⟩:=q7; exact again I7 n7
    | cont=>obtain ⟨σ7,H7,I7,n7⟩:=q7; exact again I7 n7
    | brk=>obtain ⟨σ7,H7,I7,q7⟩:=q7; exact ⟨σ7,H7,I7.unpinned,q7⟩
    | ret v=>obtain ⟨x7,σ7,H7,I7,r7,q7⟩:=q7; exact ⟨x7,σ7,H7,I7.unpinned,r7,q7⟩
end
theorem for_list {K:PySem.W.Frag} {a:Addr} {xs:List V} {g:TG} {tb:TS} {D:Ends} {σ:St} {H:Hp} (Pv:Nat→St→Hp→Prop) (h0:Pv 0 σ H) (hl:∀ i σ H,i≤xs.length→Pv i σ H→SqL K H a xs)
    (hs:∀ i x σ H,xs[i]?=some x→Pv i σ H→g x σ H fun σ2 H2=>tb { D with nx:=Pv (i+1),ct:=Pv (i+1),bk:=D.nx } σ2 H2) (hd:∀ σ H,Pv xs.length σ H→D.nx σ H) :
    ∃ W:Nat→Nat→St→Hp→Prop,(∃ m,W 0 m σ H)∧∀ i m σ H,W i m σ H →
      ((Itl K a).stop i H∧D.nx σ H)∨((Itl K a).go i H∧∃ N:St→Hp→Prop,(∀ σ' H',N σ' H'→∃ m',m'<m∧W (i+1) m' σ' H')∧∀ x H',(Itl K a).yld i H x H'→g x σ H' fun σ2 H2=>tb { D with nx:=N,ct:=N,bk:=D.nx } σ2 H2):=by
  refine ⟨fun i m σ H=>m=xs.length-i∧i≤xs.length∧Pv i σ H,⟨xs.length,by simp,Nat.zero_le _,h0⟩,?_⟩
  rintro i m σ H ⟨rfl,hi,p⟩
  have q:=hl i σ H hi p
  by_cases hlt:i<xs.length
  · refine .inr ⟨⟨xs,xs[i],q,by simp [hlt]⟩,Pv (i+1),fun σ' H' p'=>⟨xs.length-(i+1),by omega,rfl,hlt,p'⟩,fun x H' y=>?_⟩
    obtain ⟨e,y⟩:=y
    subst e
    exact hs i x σ _ (y xs q) p
  · have e:i=xs.length:=by omega
    subst e
    exact .inl ⟨⟨xs,q,Nat.le_refl _⟩,hd σ H p⟩
theorem for_range {lo:Int} {n:Nat} {g:TG} {tb:TS} {D:Ends} {σ:St} {H:Hp} (Pv:Nat→St→Hp→Prop) (h0:Pv 0 σ H)
    (hs:∀ i σ H,i<n→Pv i σ H→g (.int (lo+i)) σ H fun σ2 H2=>tb { D with nx:=Pv (i+1),ct:=Pv (i+1),bk:=D.nx } σ2 H2) (hd:∀ σ H,Pv n σ H→D.nx σ H) :
    ∃ W:Nat→Nat→St→Hp→Prop,(∃ m,W 0 m σ H)∧∀ i m σ H,W i m σ H →
      ((Itr lo n).stop i H∧D.nx σ H)∨((Itr lo n).go i H∧∃ N:St→Hp→Prop,(∀ σ' H',N σ' H'→∃ m',m'<m∧W (i+1) m' σ' H')∧∀ x H',(Itr lo n).yld i H x H'→g x σ H' fun σ2 H2=>tb { D with nx:=N,ct:=N,bk:=D.nx } σ2 H2):=by
  refine ⟨fun i m σ H=>m=n-i∧i≤n∧Pv i σ H,⟨n,by simp,Nat.zero_le _,h0⟩,?_⟩
  rintro i m σ H ⟨rfl,hi,p⟩
  by_cases hlt:i<n
  · refine .inr ⟨hlt,Pv (i+1),fun σ' H' p'=>⟨n-(i+1),by omega,rfl,hlt,p'⟩,fun x H' y=>?_⟩
    obtain ⟨e,y⟩:=y
    subst e y
    exact hs i σ _ hlt p
  · have e:i=n:=by omega
    subst e
    exact .inl ⟨Nat.le_refl _,hd σ H p⟩
end L2
namespace L2
open PySem PySem.Spec PyProof.Rows
abbrev R2:=V→V→Hp→VK→Prop
def OpR (X : Cx) (f : Value → Value → Sem Value) (r : R2) : Prop :=
  ∀ (pins:List (Addr×Obj)) (s:Shared) (σ:St) (H:Hp) (x y:V) (v u:Value) (Q:VK),Inv X pins σ H s→RelV x v→RelV y u→r x y H Q →
    wpAny (model X.prog X.w) X.A (f v u) (EP X pins σ Q) X.xe s
def UnR (X : Cx) (f : Value → Sem Value) (r : V → Hp → VK → Prop) : Prop :=
  ∀ (pins:List (Addr×Obj)) (s:Shared) (σ:St) (H:Hp) (x:V) (v:Value) (Q:VK),Inv X pins σ H s→RelV x v→r x H Q →
    wpAny (model X.prog X.w) X.A (f v) (EP X pins σ Q) X.xe s
def CallR (X : Cx) (f : Value) (r : List V → Hp → VK → Prop) : Prop :=
  ∀ (pins:List (Addr×Obj)) (s:Shared) (σ:St) (H:Hp) (xs:List V) (us:List Value) (Q:VK),Inv X pins σ H s→Vals xs us→r xs H Q →
    wpAny (model X.prog X.w) X.A (call f us) (EP X pins σ Q) X.xe s
def tOp (r:R2) (ta tb:TE):TE:=fun σ H Q=>ta σ H fun x H1=>tb σ H1 fun y H2=>r x y H2 Q
def tUn (r:V→Hp→VK→Prop) (ta:TE):TE:=fun σ H Q=>ta σ H fun x H1=>r x H1 Q
def rI (C:Int→Int→Prop) (g:Int→Int→V):R2:=fun x y H Q=>∃ i j,x=.int i∧y=.int j∧C i j∧Q (g i j) H
def rI0 (g:Int→Int→V):R2:=fun x y H Q=>∃ i j,x=.int i∧y=.int j∧Q (g i j) H
def rU (g:Int→V):V→Hp→VK→Prop:=fun x H Q=>∃ i,x=.int i∧Q (g i) H
section
variable {X:Cx} {a b c:Expr} {ta tb tc:TE} {pos:Pos}
theorem binT (ha:PE X a ta) (hb:PE X b tb) {pins:List (Addr×Obj)} {s:Shared} {σ:St} {H:Hp} {R:V→V→Hp→Prop} (I:Inv X pins σ H s)
    (h:ta σ H fun x H1=>tb σ H1 fun y H2=>R x y H2) {Q:Value→Shared→Prop} {f:Value→Value→Sem Value}
    (hf:∀ v u s2 x y H2,Inv X pins σ H2 s2→RelV x v→RelV y u→R x y H2→wpAny (model X.prog X.w) X.A (f v u) Q X.xe s2) :
    wpAny (model X.prog X.w) X.A (eval a X.env) (fun v s₁=>wpAny (model X.prog X.w) X.A (eval b X.env) (fun u s₂=>wpAny (model X.prog X.w) X.A (f v u) Q X.xe s₂) X.xe s₁) X.xe s:=by
  refine thn (ha pins s σ H _ I h) fun v s1 ⟨x,H1,I1,r1,q1⟩=>?_
  refine thn (hb pins s1 σ H1 _ I1 q1) fun u s2 ⟨y,H2,I2,r2,q2⟩=>?_
  exact hf v u s2 x y H2 I2 r1 r2 q2
theorem pe_op {op:Operator} {r:R2} (ho:OpR X (binaryOp op) r) (ha:PE X a ta) (hb:PE X b tb):PE X (.BinOp a op b pos) (tOp r ta tb):=by
  intro pins s σ H Q I h
  exact wpAny_BinOp (binT ha hb I h fun v u s2 x y H2 I2 rx ry q=>ho pins s2 σ H2 x y v u Q I2 rx ry q)
theorem pe_un {op:UnaryOp} {r:V→Hp→VK→Prop} (ho:UnR X (unaryOp op) r) (ha:PE X a ta):PE X (.UnaryOp op a pos) (tUn r ta):=by
  intro pins s σ H Q I h
  exact UnaryOp_ (thn (ha pins s σ H _ I h) fun v s1 ⟨x,H1,I1,r1,q1⟩=>ho pins s1 σ H1 x v Q I1 r1 q1)
theorem opI {f:Value→Value→Sem Value} {C:Int→Int→Prop} {g:Int→Int→Int}
    (rule:∀ (i j:Int) (t u:Tok) (s:Shared) (Q:Value→Shared→Prop) (E:Value→Shared→Prop),C i j→Q (.int (g i j) s.toks) { s with toks:=s.toks+1 }→wpAny (model X.prog X.w) X.A (f (.int i t) (.int j u)) Q E s) :
    OpR X f (rI C fun i j=>.int (g i j)):=by
  intro pins s σ H x y v u Q I rx ry h
  obtain ⟨i,j,rfl,rfl,hc,q⟩:=h
  obtain ⟨t,rfl⟩:=rx
  obtain ⟨t',rfl⟩:=ry
  exact rule i j t t' s _ _ hc ⟨.int (g i j),H,I.tok _,⟨_,rfl⟩,q⟩
theorem opI0 {f:Value→Value→Sem Value} {g:Int→Int→Int}
    (rule:∀ (i j:Int) (t u:Tok) (s:Shared) (Q:Value→Shared→Prop) (E:Value→Shared→Prop),Q (.int (g i j) s.toks) { s with toks:=s.toks+1 }→wpAny (model X.prog X.w) X.A (f (.int i t) (.int j u)) Q E s) :
    OpR X f (rI0 fun i j=>.int (g i j)):=by
  intro pins s σ H x y v u Q I rx ry h
  obtain ⟨i,j,rfl,rfl,q⟩:=h
  obtain ⟨t,rfl⟩:=rx
  obtain ⟨t',rfl⟩:=ry
  exact rule i j t t' s _ _ ⟨.int (g i j),H,I.tok _,⟨_,rfl⟩,q⟩
theorem opB0 {f:Value→Value→Sem Value} {g:Int→Int→Bool}
    (rule:∀ (i j:Int) (t u:Tok) (s:Shared) (Q:Value→Shared→Prop) (E:Value→Shared→Prop),Q (.bool (g i j)) s→wpAny (model X.prog X.w) X.A (f (.int i t) (.int j u)) Q E s) :
    OpR X f (rI0 fun i j=>.bl (g i j)):=by
  intro pins s σ H x y v u Q I rx ry h
  obtain ⟨i,j,rfl,rfl,q⟩:=h
  obtain ⟨t,rfl⟩:=rx
  obtain ⟨t',rfl⟩:=ry
  exact rule i j t t' s _ _ ⟨.bl (g i j),H,I,rfl,q⟩
def CDiv (i j:Int):Prop:=0<j∧j<1073741824
def CPow (i j:Int):Prop:=0≤j∧j≤1000000∧i.natAbs<2 ^ 64
def CMul (i j:Int):Prop:=(-(2 ^ 64)<i∧i<2 ^ 64)∨(-(2 ^ 64)<j∧j<2 ^ 64)
theorem CMul.ok {i j:Int} (h:CMul i j):IntMulOk i j:=by
  rcases h with ⟨h1,h2⟩ | ⟨h1,h2⟩
  · exact .of_left (intBits_le_64 h1 h2)
  · exact .of_right (intBits_le_64 h1 h2)
theorem op_add:OpR X (binaryOp .Add) (rI0 fun i j=>.int (i+j)):=opI0 fun _ _ _ _ _ _ _ q=>add_int q
theorem op_sub:OpR X (binaryOp .Sub) (rI0 fun i j=>.int (i-j)):=opI0 fun _ _ _ _ _ _ _ q=>sub_int q
theorem op_mul:OpR X (binaryOp .Mult) (rI CMul fun i j=>.int (i*j)):=opI fun _ _ _ _ _ _ _ hc q=>mul_int q hc.ok
theorem op_fdiv:OpR X (binaryOp .FloorDiv) (rI CDiv fun i j=>.int (i / j)):=opI fun i j _ _ _ _ _ hc q=>by
  have h1:(0:Int)<j:=hc.1
  have h2:j<1073741824:=hc.2
  exact floordiv_int (by omega) (by rw [Int.fdiv_eq_ediv_of_nonneg i (by omega)]; exact q) (.inl (PyProof.noPylong_small (by omega)))
theorem op_mod:OpR X (binaryOp .Mod) (rI (fun _ j=>0<j) fun i j=>.int (i % j)):=opI fun i j _ _ _ _ _ hc q=>by
  have h1:(0:Int)<j:=hc
  exact mod_int' (by omega) (by rw [Int.fmod_eq_emod_of_nonneg i (by omega)]; exact q)
theorem op_pow:OpR X (binaryOp .Pow) (rI CPow fun i j=>.int (i ^ j.toNat)):=opI fun _ _ _ _ _ _ _ hc q=>pow_int_small hc.1 hc.2.1 hc.2.2 q
theorem unI {f:Value→Sem Value} {g:Int→Int}
    (rule:∀ (i:Int) (t:Tok) (s:Shared) (Q:Value→Shared→Prop) (E:Value→Shared→Prop),Q (.int (g i) s.toks) { s with toks:=s.toks+1 }→wpAny (model X.prog X.w) X.A (f (.int i t)) Q E s) :
    UnR X f (rU fun i=>.int (g i)):=by
  intro pins s σ H x v Q I rx h
  obtain ⟨i,rfl,q⟩:=h
  obtain ⟨t,rfl⟩:=rx
  exact rule i t s _ _ ⟨.int (g i),H,I.tok _,⟨_,rfl⟩,q⟩
theorem un_neg:UnR X (unaryOp .USub) (rU fun i=>.int (-i)):=unI fun _ _ _ _ _ q=>neg_int q
end
def scal:V→V→Bool
  | .non,.non=>true | .non,.int _=>true | .int _,.non=>true | .non,.bl _=>true | .bl _,.non=>true | .non,.str _=>true | .str _,.non=>true
  | .int _,.int _=>true | .bl _,.bl _=>true | .str _,.str _=>true | .byt _,.byt _=>true
  | .int _,.str _=>true | .str _,.int _=>true | .bl _,.str _=>true | .str _,.bl _=>true
  | _,_=>false
def rEq:R2:=fun x y H Q=>scal x y=true∧Q (.bl (decide (x=y))) H
def rNe:R2:=fun x y H Q=>scal x y=true∧Q (.bl (!decide (x=y))) H
theorem dec_int {i j:Int}:decide (V.int i=V.int j)=(i==j):=by
  rw [Bool.eq_iff_iff]
  simp
theorem dec_bl {i j:Bool}:decide (V.bl i=V.bl j)=(i==j):=by
  rw [Bool.eq_iff_iff]
  simp
theorem dec_str {i j:Str}:decide (V.str i=V.str j)=(i==j):=by
  rw [Bool.eq_iff_iff]
  simp
theorem dec_byt {i j:Array UInt8}:decide (V.byt i=V.byt j)=(i.toList==j.toList):=by
  rw [Bool.eq_iff_iff]
  cases i
  cases j
  simp
section
variable {X:Cx} {a b c:Expr} {ta tb tc:TE} {pos:Pos}
theorem fin_bl {pins:List (Addr×Obj)} {σ:St} {H:Hp} {s:Shared} {Q:VK} {k k':Bool} (I:Inv X pins σ H s) (q:Q (.bl k) H) (e:k=k'):EP X pins σ Q (.bool k') s:=by
  subst e
  exact ⟨.bl k,H,I,rfl,q⟩
theorem op_eq:OpR X (compareOp .Eq) rEq:=by
  intro pins s σ H x y v u Q I rx ry h
  obtain ⟨hs,q⟩:=h
  cases x with
  | non =>
    cases rx
    cases y with
    | non=>cases ry; exact PySem.EqNone.eq_none_none (fin_bl I q (by simp))
    | bl j=>cases ry; exact PySem.EqNone.eq_none_bool (fin_bl I q (by simp))
    | int j=>obtain ⟨t',rfl⟩:=ry; exact PySem.EqNone.eq_none_int (fin_bl I q (by simp))
    | str j=>obtain ⟨t',rfl⟩:=ry; exact PySem.EqNone.eq_none_str (fin_bl I q (by simp))
    | _=>exact absurd (show false=true from hs) Bool.false_ne_true
  | bl i =>
    cases rx
    cases y with
    | non=>cases ry; exact PySem.EqNone.eq_bool_none (fin_bl I q (by simp))
    | bl j=>cases ry; exact eq_bool (fin_bl I q dec_bl)
    | str j=>obtain ⟨t',rfl⟩:=ry; exact PySem.EqMixed.eq_bool_str (fin_bl I q (by simp))
    | _=>exact absurd (show false=true from hs) Bool.false_ne_true
  | int i =>
    obtain ⟨t,rfl⟩:=rx
    cases y with
    | non=>cases ry; exact PySem.EqNone.eq_int_none (fin_bl I q (by simp))
    | int j=>obtain ⟨t',rfl⟩:=ry; exact eq_int (fin_bl I q dec_int)
    | str j=>obtain ⟨t',rfl⟩:=ry; exact PySem.EqMixed.eq_int_str (fin_bl I q (by simp))
    | _=>exact absurd (show false=true from hs) Bool.false_ne_true
  | str i =>
    obtain ⟨t,rfl⟩:=rx
    cases y with
    | non=>cases ry; exact PySem.EqNone.eq_str_none (fin_bl I q (by simp))
    | bl j=>cases ry; exact PySem.EqMixed.eq_str_bool (fin_bl I q (by simp))
    | int j=>obtain ⟨t',rfl⟩:=ry; exact PySem.EqMixed.eq_str_int (fin_bl I q (by simp))
    | str j=>obtain ⟨t',rfl⟩:=ry; exact eq_str (fin_bl I q dec_str)
    | _=>exact absurd (show false=true from hs) Bool.false_ne_true
  | byt i =>
    obtain ⟨t,rfl⟩:=rx
    cases y with
    | byt j=>obtain ⟨t',rfl⟩:=ry; exact PySem.W.eq_bytes (fin_bl I q dec_byt)
    | _=>exact absurd (show false=true from hs) Bool.false_ne_true
  | _=>cases y <;> exact absurd (show false=true from hs) Bool.false_ne_true
theorem op_ne:OpR X (compareOp .NotEq) rNe:=by
  intro pins s σ H x y v u Q I rx ry h
  obtain ⟨hs,q⟩:=h
  cases x with
  | non =>
    cases rx
    cases y with
    | non=>cases ry; exact PySem.EqNone.ne_none_none (fin_bl I q (by simp))
    | bl j=>cases ry; exact PySem.EqNone.ne_none_bool (fin_bl I q (by simp))
    | int j=>obtain ⟨t',rfl⟩:=ry; exact PySem.EqNone.ne_none_int (fin_bl I q (by simp))
    | str j=>obtain ⟨t',rfl⟩:=ry; exact PySem.EqNone.ne_none_str (fin_bl I q (by simp))
    | _=>exact absurd (show false=true from hs) Bool.false_ne_true
  | bl i =>
    cases rx
    cases y with
    | non=>cases ry; exact PySem.EqNone.ne_bool_none (fin_bl I q (by simp))
    | bl j=>cases ry; exact ne_bool (fin_bl I q (congrArg not dec_bl))
    | str j=>obtain ⟨t',rfl⟩:=ry; exact PySem.EqMixed.ne_bool_str (fin_bl I q (by simp))
    | _=>exact absurd (show false=true from hs) Bool.false_ne_true
  | int i =>
    obtain ⟨t,rfl⟩:=rx
    cases y with
    | non=>cases ry; exact PySem.EqNone.ne_int_none (fin_bl I q (by simp))
    | int j=>obtain ⟨t',rfl⟩:=ry; exact ne_int (fin_bl I q (congrArg not dec_int))
    | str j=>obtain ⟨t',rfl⟩:=ry; exact PySem.EqMixed.ne_int_str (fin_bl I q (by simp))
    | _=>exact absurd (show false=true from hs) Bool.false_ne_true
  | str i =>
    obtain ⟨t,rfl⟩:=rx
    cases y with
    | non=>cases ry; exact PySem.EqNone.ne_str_none (fin_bl I q (by simp))
    | bl j=>cases ry; exact PySem.EqMixed.ne_str_bool (fin_bl I q (by simp))
    | int j=>obtain ⟨t',rfl⟩:=ry; exact PySem.EqMixed.ne_str_int (fin_bl I q (by simp))
    | str j=>obtain ⟨t',rfl⟩:=ry; exact ne_str (fin_bl I q (congrArg not dec_str))
    | _=>exact absurd (show false=true from hs) Bool.false_ne_true
  | byt i =>
    obtain ⟨t,rfl⟩:=rx
    cases y with
    | byt j=>obtain ⟨t',rfl⟩:=ry; exact PySem.W.ne_bytes (fin_bl I q (congrArg not dec_byt))
    | _=>exact absurd (show false=true from hs) Bool.false_ne_true
  | _=>cases y <;> exact absurd (show false=true from hs) Bool.false_ne_true
theorem op_lt:OpR X (compareOp .Lt) (rI0 fun i j=>.bl (decide (i<j))):=opB0 fun _ _ _ _ _ _ _ q=>lt_int q
theorem op_le:OpR X (compareOp .LtE) (rI0 fun i j=>.bl (decide (i≤j))):=opB0 fun _ _ _ _ _ _ _ q=>le_int q
theorem op_gt:OpR X (compareOp .Gt) (rI0 fun i j=>.bl (decide (j<i))):=opB0 fun _ _ _ _ _ _ _ q=>gt_int q
theorem op_in_str:OpR X (compareOp .In) (fun x y H Q=>∃ i j,x=.str i∧y=.str j∧Q (.bl (!(Builtin.Str.occurrences j i 0 j.length 1).isEmpty)) H):=by
  intro pins s σ H x y v u Q I rx ry h
  obtain ⟨i,j,rfl,rfl,q⟩:=h
  obtain ⟨t,rfl⟩:=rx
  obtain ⟨t',rfl⟩:=ry
  exact in_str (fin_bl I q rfl)
theorem op_isN:OpR X (compareOp .Is) (fun x y H Q=>y=.non∧Q (.bl (decide (x=.non))) H):=by
  intro pins s σ H x y v u Q I rx ry h
  obtain ⟨rfl,q⟩:=h
  cases ry
  refine is_none_gen (fin_bl I q ?_)
  cases x <;> first
    | (cases rx; rfl)
    | (obtain ⟨t,rfl⟩:=rx; rfl)
theorem op_notN:OpR X (compareOp .IsNot) (fun x y H Q=>y=.non∧Q (.bl (!decide (x=.non))) H):=by
  intro pins s σ H x y v u Q I rx ry h
  obtain ⟨rfl,q⟩:=h
  cases ry
  refine isnot_none_gen (fin_bl I q ?_)
  cases x <;> first
    | (cases rx; rfl)
    | (obtain ⟨t,rfl⟩:=rx; rfl)
theorem nomark (b:Expr) {op:CmpOp} (h:op≠.In:=by decide) (h2:op≠.NotIn:=by decide):behindInMarks op b=false:=by
  have e1:(op==CmpOp.In)=false:=by cases op <;> first | rfl | exact absurd rfl h
  have e2:(op==CmpOp.NotIn)=false:=by cases op <;> first | rfl | exact absurd rfl h2
  cases b <;> simp [behindInMarks,e1,e2]
theorem pe_cmpR {op:CmpOp} {r:R2} (ho:OpR X (compareOp op) r) (ha:PE X a ta) (hb:PE X b tb) (hm:behindInMarks op b=false):PE X (.Compare a [op] [b] pos) (tOp r ta tb):=by
  intro pins s σ H Q I h
  exact wpAny_Compare1 (binT ha hb I h fun v u s2 x y H2 I2 rx ry q=>ho pins s2 σ H2 x y v u Q I2 rx ry q) hm
def tTest (t:TE):TT:=fun σ H Q=>t σ H fun x H'=>∃ k,x=.bl k∧Q k H'
theorem pt_cmpR {op:CmpOp} {r:R2} (ho:OpR X (compareOp op) r) (ha:PE X a ta) (hb:PE X b tb) (hm:behindInMarks op b=false):PT X (.Compare a [op] [b] pos) (tTest (tOp r ta tb)):=by
  intro pins s σ H Q I h
  refine wpAny_isTrue_Compare1 (thn (ha pins s σ H _ I h) fun v s1 ⟨x,H1,I1,r1,q1⟩=>thn (hb pins s1 σ H1 _ I1 q1) fun u s2 ⟨y,H2,I2,r2,q2⟩ =>
    thn (ho pins s2 σ H2 x y v u _ I2 r1 r2 q2) fun c s3 ⟨z,H3,I3,r3,k,e,q3⟩=>?_) hm
  subst e
  cases r3
  exact wpAny_truthy_bool ⟨H3,I3,q3⟩
def tChain (r r':R2) (ta tb tc:TE):TE:=fun σ H Q=>ta σ H fun x H1=>tb σ H1 fun y H2=>r x y H2 fun z H3=>∃ k,z=.bl k ∧
  (if k=true then tc σ H3 fun w' H4=>r' y w' H4 Q else Q (.bl false) H3)
theorem pt_chain {op op':CmpOp} {r r':R2} (ho:OpR X (compareOp op) r) (ho':OpR X (compareOp op') r') (ha:PE X a ta) (hb:PE X b tb) (hc:PE X c tc)
    (hm:lastMarks [op,op'] [b,c]=false:=by with_unfolding_all rfl):PT X (.Compare a [op,op'] [b,c] pos) (tTest (tChain r r' ta tb tc)):=by
  intro pins s σ H Q I h
  refine isTrue_chain (thn (ha pins s σ H _ I h) fun v s1 ⟨x,H1,I1,r1,q1⟩=>test_link (thn (hb pins s1 σ H1 _ I1 q1) fun u s2 ⟨y,H2,I2,r2,q2⟩ =>
    thn (ho pins s2 σ H2 x y v u _ I2 r1 r2 q2) fun d s3 ⟨z,H3,I3,r3,k,e,q3⟩=>?_)) hm
  subst e
  cases r3
  refine wpAny_truthy_bool ?_
  cases k with
  | false =>
    obtain ⟨k',e',q'⟩:=q3
    cases e'
    exact ite_ff ⟨H3,I3,q'⟩
  | true =>
    refine ite_tt (test_last (thn (hc pins s3 σ H3 _ I3 q3) fun w' s4 ⟨z',H4,I4,r4,q4⟩=>thn (ho' pins s4 σ H4 y z' u w' _ I4 r2 r4 q4) fun d' s5 ⟨z2,H5,I5,r5,k2,e2,q5⟩=>?_))
    subst e2
    cases r5
    exact wpAny_truthy_bool ⟨H5,I5,q5⟩
theorem line63:(sizeLine:Nat)<2 ^ 63:=by rw [sizeLine_eq]; decide
theorem op_add_str:OpR X (binaryOp .Add) (fun x y H Q=>∃ i j,x=.str i∧y=.str j∧i.length+j.length≤sizeLine∧Q (.str (i++j)) H):=by
  intro pins s σ H x y v u Q I rx ry h
  obtain ⟨i,j,rfl,rfl,hz,q⟩:=h
  obtain ⟨t,rfl⟩:=rx
  obtain ⟨t',rfl⟩:=ry
  exact add_str (fun t' tk=>⟨.str (i++j),H,I.tok _,⟨_,rfl⟩,q⟩) hz
theorem vals1 {x:V} {us:List Value} (r:Vals [x] us):∃ u,us=[u]∧RelV x u:=by
  cases r with
  | cons r1 r2=>cases r2; exact ⟨_,rfl,r1⟩
theorem call_int1:CallR X (.type "int") (fun xs H Q=>(∃ i,xs=[.int i]∧Q (.int i) H)∨∃ k,xs=[.bl k]∧Q (.int (if k then 1 else 0)) H):=by
  intro pins s σ H xs us Q I r h
  rcases h with ⟨i,rfl,q⟩ | ⟨k,rfl,q⟩
  · obtain ⟨u,rfl,t,rfl⟩:=vals1 r
    exact call_int_int ⟨.int i,H,I,⟨_,rfl⟩,q⟩
  · obtain ⟨u,rfl,r1⟩:=vals1 r
    cases r1
    exact call_int_bool ⟨.int (if k then 1 else 0),H,I.tok _,⟨_,rfl⟩,q⟩
end
end L2
namespace L2
open PySem PySem.Spec PyProof.Rows
structure ObjM (h:Heap) (x dx C:Addr) (mA:Str→Option Value):Prop where
  obj:h.get? x=some (PySem.W.instObj C dx)
  ns:h.Ns1 dx mA
  ne:dx≠x
theorem lookIn_ns {h:Heap} {dx:Addr} {mA:Str→Option Value} (n:h.Ns1 dx mA):∃ od,h.get? dx=some od∧∀ name,PySem.W.lookIn name od=some (mA name):=by
  obtain ⟨o,es,ep,ho,hd,hk,_,hm⟩:=n
  refine ⟨o,ho,fun name=>?_⟩
  have e:=hm name
  unfold nsFind findBy at e
  rw [← Array.find?_toList] at e
  unfold PySem.W.lookIn
  rw [hd]
  dsimp only
  split
  · rename_i y q
    rw [q] at e
    exact congrArg some e
  · rename_i q
    rw [q] at e
    have a:es.toList.any (·.refKey)=false:=by
      rw [List.any_eq_false]
      intro y hy
      obtain ⟨z,t,hkey⟩:=hk y (Array.mem_toList_iff.mp hy)
      simp [DictEntry.refKey,hkey]
    have a':¬ es.toList.any (·.refKey)=true:=by rw [a]; exact Bool.false_ne_true
    rw [if_neg a']
    exact congrArg some e
theorem ObjM.look {h:Heap} {x dx C:Addr} {mA:Str→Option Value} (I:ObjM h x dx C mA):∃ od,PySem.W.InstAt h x (PySem.W.instObj C dx) C (some od)∧∀ name,PySem.W.lookIn name od=some (mA name) :=
  let ⟨od,ho,hl⟩:=lookIn_ns I.ns
  ⟨od,⟨I.obj,rfl,rfl,ho⟩,hl⟩
section
variable {prog:Program} {w:World} {A:Around} {E:Value→Shared→Prop} {s:Shared} {K:PySem.W.Frag} {x dx C f:Addr} {mA:Str→Option Value} {name:Str} {v:Value}
theorem get_map {expr:Bool} {Q:Value→Shared→Prop} (X:K.In s.heap) (I:ObjM s.heap x dx C mA) (hg:PySem.W.plainGet K C name=true) (hh:PySem.W.hasDictIn K C=true)
    (ha:PySem.W.findIn K (.ref C) name=some none) (hv:mA name=some v) (hv':PySem.W.handedIn v=true) (h:Q v { s with toks:=s.toks+1 }) :
    wpAny (model prog w) A (getAttr (.ref x) name expr) Q E s:=by
  obtain ⟨od,J,hl⟩:=I.look
  exact PySem.W.get_value X J (PySem.W.plainGet_of hg).1 (PySem.W.findObj_own hh ha rfl (by rw [hl,hv])) hv' h
theorem get_meth {pl:Sem Bool} {Q:Value×List Value→Shared→Prop} (X:K.In s.heap) (I:ObjM s.heap x dx C mA) (hg:PySem.W.plainGet K C name=true)
    (hf:PySem.W.findIn K (.ref C) name=some (some (.ref f))) (ht:PySem.W.isFn K (.ref f)=true) (hv:mA name=none) (h:Q (.ref f,[.ref x]) s) :
    wpAny (model prog w) A (getMethod (.ref x) name pl) Q E s:=by
  obtain ⟨od,J,hl⟩:=I.look
  exact PySem.W.method_fn X J (PySem.W.plainGet_of hg).1 (PySem.W.plainGet_of hg).2 hf (beq_iff_eq.mp ht) (by show (PySem.W.lookIn name od).map (·.isSome)=some false; rw [hl,hv]; rfl) h
theorem set_map {ns:List Str} {Q:Unit→Shared→Prop} (X:K.In s.heap) (I:ObjM s.heap x dx C mA)
    (hs:PySem.W.findIn K (.ref C) "__setattr__" = some (some (.builtin "object.__setattr__"))) (hp:PySem.W.plainOver K C=true) (ht:PySem.W.takerIn K C name=some none) (hh:PySem.W.hasDictIn K C=true)
    (hw:PySem.Within mA ns) (hsz:ns.length≤sizeLine)
    (h:∀ h',ObjM h' x dx C (fun y=>if y=name then some v else mA y)→Heap.SameBut dx s.heap h'→Q () { s with heap:=h',toks:=s.toks+2 }) :
    wpAny (model prog w) A (setAttr (.ref x) name v) Q E s:=by
  obtain ⟨od,J,hl⟩:=I.look
  refine PySem.W.set_plain X J hs (PySem.W.osa_open (s:={ s with toks:=s.toks+1 }) (r:=none) X J hp ht fun b=>?_)
  obtain ⟨cd,hc,hd'⟩:=PySem.W.any_some hh
  have hx:s.heap.get? x=some ⟨.ref C,some dx,.plain,#[]⟩:=I.obj
  refine wpAny_bind (wpAny_pure (wpAny_bind (wpAny_bind (wpAny_loadPart hx (wpAny_bind (PySem.W.Looks.here (s:={ s with toks:=s.toks+1 }) (PySem.W.looks_clsIn X hc) ?_))))))
  rw [hd']
  refine wpAny_pure (a:=some dx) (wpAny_bind (wpAny_pure (wpAny_bind ?_)))
  refine wpAny_nsSet1 (s:={ s with toks:=s.toks+1 }) I.ns fun h' hn2 hs2=>?_
  obtain ⟨oD,esD,epD,hoD,hdD,hcD⟩:=hn2.count (PySem.Within.cons name v hw)
  refine wpAny_bind (wpAny_lookBehind hoD (by rw [hdD]; exact pastItsLine_dict (Nat.le_trans hcD (by rw [List.length_cons]; omega))) ?_)
  exact wpAny_pure (h _ ⟨(hs2.2 _ (Ne.symm I.ne)).trans I.obj,hn2,I.ne⟩ hs2)
theorem make_map {R:Result→Shared→Prop} {vs:List Value} {kw:List (Str×Value)} (X:K.In s.heap) (hm:PySem.W.makesIn K C=true)
    (hi:PySem.W.findIn K (.ref C) "__init__" = some (some (.ref f))) (hf:PySem.W.typeIn K (.ref f)=some (.type "function"))
    (h:codeAny (model prog w) (A.under (.builtin "type.__call__" ⟨.ref C::vs,kw⟩)) (.call (.ref f) ⟨.ref (s.heap.objs.size+1)::vs,kw⟩) (PySem.W.InitBack (s.heap.objs.size+1) R)
      { s with heap:=(s.heap.push PySem.W.emptyDict).push (PySem.W.instObj C s.heap.objs.size) }) :
    codeAny (model prog w) A (.call (.ref C) ⟨vs,kw⟩) R s:=by
  obtain ⟨hh,g,d,t,os⟩:=s
  exact PySem.W.make_core (PySem.W.makes_of X hm) (PySem.W.looks_findIn X hi) (fun self=>PySem.W.bind_fn X self hf) (.inl rfl) h
end
def putF (f:Str) (v:V):List (Str×V)→List (Str×V)
  | []=>[(f,v)]
  | (g,x)::r=>if g=f then (g,v)::r else (g,x)::putF f v r
theorem lookup_putF (f g:Str) (v:V):∀ fs:List (Str×V),(putF f v fs).lookup g=if g=f then some v else fs.lookup g
  | []=>by
    show List.lookup g [(f,v)]=_
    by_cases h:g=f
    · have hb:(g==f)=true:=beq_iff_eq.mpr h
      simp only [List.lookup,hb,if_pos h]
    · have hb:(g==f)=false:=beq_eq_false_iff_ne.mpr h
      simp only [List.lookup,hb,if_neg h]
  | (k, x) :: r => by
    have ih:=lookup_putF f g v r
    rw [show putF f v ((k,x)::r)=(if k=f then (k,v)::r else (k,x)::putF f v r) from rfl]
    by_cases hk:k=f
    · rw [if_pos hk]
      by_cases h:g=k
      · have hb:(g==k)=true:=beq_iff_eq.mpr h
        simp only [List.lookup,hb,if_pos (h.trans hk)]
      · have hb:(g==k)=false:=beq_eq_false_iff_ne.mpr h
        simp only [List.lookup,hb,if_neg (fun e:g=f=>h (e.trans hk.symm))]
    · rw [if_neg hk]
      by_cases h:g=k
      · have hb:(g==k)=true:=beq_iff_eq.mpr h
        simp only [List.lookup,hb,if_neg (fun e:g=f=>hk (h.symm.trans e))]
      · have hb:(g==k)=false:=beq_eq_false_iff_ne.mpr h
        simp only [List.lookup,hb]
        exact ih
theorem keys_putF (f:Str) (v:V):∀ fs:List (Str×V),f∈(putF f v fs).map (·.1)∧∀ g,g∈fs.map (·.1)→g∈(putF f v fs).map (·.1)
  | []=>⟨by simp [putF],fun g h=>by simp at h⟩
  | (k, x) :: r => by
    obtain ⟨i1,i2⟩:=keys_putF f v r
    rw [show putF f v ((k,x)::r)=(if k=f then (k,v)::r else (k,x)::putF f v r) from rfl]
    by_cases hk:k=f
    · rw [if_pos hk]
      subst hk
      exact ⟨by simp,fun g h=>by simpa using h⟩
    · rw [if_neg hk]
      refine ⟨?_,fun g h=>?_⟩
      · rw [List.map_cons]
        exact List.mem_cons_of_mem _ i1
      · rw [List.map_cons] at h ⊢
        rcases List.mem_cons.mp h with e | e
        · exact List.mem_cons.mpr (.inl e)
        · exact List.mem_cons_of_mem _ (i2 g e)
theorem length_putF (f:Str) (v:V):∀ fs:List (Str×V),(putF f v fs).length≤fs.length+1
  | []=>by simp [putF]
  | (k,x)::r=>by
    have ih:=length_putF f v r
    rw [show putF f v ((k,x)::r)=(if k=f then (k,v)::r else (k,x)::putF f v r) from rfl]
    by_cases hk:k=f
    · rw [if_pos hk,List.length_cons,List.length_cons]; omega
    · rw [if_neg hk,List.length_cons,List.length_cons]; omega
theorem RelO.some_of {v:V} {o:Option Value} (r:RelO (some v) o):∃ u,o=some u∧RelV v u:=by
  cases o with
  | none=>exact (show False from r).elim
  | some u=>exact ⟨u,rfl,r⟩
theorem RelO.none_of {o:Option Value} (r:RelO none o):o=none:=by
  cases o with
  | none=>rfl
  | some u=>exact (show False from r).elim
theorem handed_of {v:V} {u:Value} (r:RelV v u):PySem.W.handedIn u=true:=by
  cases v with
  | non=>cases (show u=Value.none from r); rfl
  | bl b=>cases (show u=Value.bool b from r); rfl
  | int i=>obtain ⟨t,e⟩:=(show ∃ t,u=Value.int i t from r); cases e; rfl
  | str x=>obtain ⟨t,e⟩:=(show ∃ t,u=Value.str x t from r); cases e; rfl
  | byt b=>obtain ⟨t,e⟩:=(show ∃ t,u=Value.bytes b t from r); cases e; rfl
  | flt b=>obtain ⟨t,e⟩:=(show ∃ t,u=Value.float b t from r); cases e; rfl
  | ref a=>cases (show u=Value.ref a from r); rfl
  | ty n=>cases (show u=Value.type n from r); rfl
section
variable {P:Program} {w:World} {H H':Hp} {h h':Heap} {a C dx:Addr} {fs fs':List (Str×V)}
theorem ins_get (hok:HOk P w H h) (e:H a=some (.ins C dx fs)):∃ mA,ObjM h a dx C mA∧(∀ f,RelO (fs.lookup f) (mA f))∧PySem.Within mA (fs.map (·.1))∧fs.length≤1000∧H dx=some (.own a):=by
  obtain ⟨d,z,ne,ob,mA,n,r,q⟩:=(show ObjOk P w H h a (.ins C dx fs) from hok a _ e)
  exact ⟨mA,⟨ob,n,ne⟩,r,q,z,d⟩
end
structure Cls (K:PySem.W.Frag) (C:Addr):Prop where
  pg:PySem.W.plainGet K C Str.empty=true
  hd:PySem.W.hasDictIn K C=true
  po:PySem.W.plainOver K C=true
  sa:PySem.W.findIn K (.ref C) "__setattr__" = some (some (.builtin "object.__setattr__"))
theorem Cls.get {K:PySem.W.Frag} {C:Addr} (c:Cls K C) (f:Str):PySem.W.plainGet K C f=true:=c.pg
def NoAttr (K:PySem.W.Frag) (C:Addr) (f:Str):Prop:=PySem.W.findIn K (.ref C) f=some none
theorem NoAttr.taker {K:PySem.W.Frag} {C:Addr} {f:Str} (n:NoAttr K C f):PySem.W.takerIn K C f=some none:=by
  unfold PySem.W.takerIn
  rw [show PySem.W.findIn K (.ref C) f=some none from n]
  rfl
structure Con (K:PySem.W.Frag) (C:Addr) (f:Str) (v:V) (u:Value):Prop where
  at_:PySem.W.findIn K (.ref C) f=some (some u)
  rel:RelV v u
  get:PySem.W.specialIn K u "__get__" = some none
  cp:PySem.W.copiedNames.contains f=false
structure Meth (K:PySem.W.Frag) (C:Addr) (m:Str) (f:Addr):Prop where
  at_:PySem.W.findIn K (.ref C) m=some (some (.ref f))
  fn:PySem.W.isFn K (.ref f)=true
  kp:PySem.W.keepIn K (.ref f)=true
section
variable {X:Cx} {pins:List (Addr×Obj)} {σ:St} {H:Hp} {s:Shared} {a C dx:Addr} {fs:List (Str×V)} {f:Str} {v:V} {A:Around} {E:Value→Shared→Prop}
theorem getattr_ok {b:Bool} {Q:Value→Shared→Prop} (I:Inv X pins σ H s) (e:H a=some (.ins C dx fs)) (c:Cls X.K C) (n:NoAttr X.K C f) (l:fs.lookup f=some v)
    (h:∀ u s',Inv X pins σ H s'→RelV v u→Q u s'):wpAny (model X.prog X.w) A (getAttr (.ref a) f b) Q E s:=by
  obtain ⟨mA,O,r,_,_,_⟩:=ins_get I.hok e
  obtain ⟨u,hu,ru⟩:=RelO.some_of (v:=v) (o:=mA f) (by rw [← l]; exact r f)
  exact get_map I.kIn O (c.get f) c.hd n hu (handed_of ru) (h u _ (I.tok _) ru)
theorem getmeth_ok {m:Str} {g:Addr} {pl:Sem Bool} {Q:Value×List Value→Shared→Prop} (I:Inv X pins σ H s) (e:H a=some (.ins C dx fs)) (c:Cls X.K C) (k:Meth X.K C m g) (l:fs.lookup m=none)
    (h:Q (.ref g,[.ref a]) s):wpAny (model X.prog X.w) A (getMethod (.ref a) m pl) Q E s:=by
  obtain ⟨mA,O,r,_,_,_⟩:=ins_get I.hok e
  have hn:mA m=none:=RelO.none_of (by rw [← l]; exact r m)
  exact get_meth I.kIn O (c.get m) k.at_ k.fn hn h
theorem setattr_ok {y:V} {u:Value} {Q:Unit→Shared→Prop} (I:Inv X pins σ H s) (e:H a=some (.ins C dx fs)) (c:Cls X.K C) (n:NoAttr X.K C f) (hl:fs.length<1000) (ry:RelV y u)
    (h:∀ s',Inv X pins σ (upd H a (.ins C dx (putF f y fs))) s'→Q () s'):wpAny (model X.prog X.w) A (setAttr (.ref a) f u) Q E s:=by
  obtain ⟨mA,O,r,wi,_,ho⟩:=ins_get I.hok e
  have hz:(fs.map (·.1)).length≤sizeLine:=by rw [List.length_map,sizeLine_eq]; omega
  refine set_map I.kIn O c.sa c.po n.taker c.hd wi hz fun h' O' sb=>h _ ?_
  have hd:∃ o,h'.get? dx=some o:=let ⟨o,_,_,e',_⟩:=O'.ns; ⟨o,e'⟩
  refine I.write (x:=a) (e:=dx) (by rw [e]; exact True.intro) (.inr ho) (fun b q hb z=>(sb.2 b hb).trans z) hd ?_
  refine ⟨by rw [upd_ne O.ne]; exact ho,?_,O.ne,O'.obj,_,O'.ns,fun g=>?_,fun g hg=>?_⟩
  · have:=length_putF f y fs; omega
  · show RelO ((putF f y fs).lookup g) (if g=f then some u else mA g)
    rw [lookup_putF]
    by_cases q:g=f
    · rw [if_pos q,if_pos q]; exact ry
    · rw [if_neg q,if_neg q]; exact r g
  · by_cases q:g=f
    · rw [q]; exact (keys_putF f y fs).1
    · refine (keys_putF f y fs).2 g (wi g fun z=>hg ?_)
      show (if g=f then some u else mA g)=none
      rw [if_neg q]; exact z
theorem Inv.made (I:Inv X pins σ H s):Inv X pins σ (upd (upd H s.heap.objs.size (.own (s.heap.objs.size+1))) (s.heap.objs.size+1) (.ins C s.heap.objs.size []))
    { s with heap:=(s.heap.push PySem.W.emptyDict).push (PySem.W.instObj C s.heap.objs.size) }:=by
  have e1:(s.heap.push PySem.W.emptyDict).get? s.heap.objs.size=some PySem.W.emptyDict:=Heap.get?_push_size s.heap rfl
  have e2:((s.heap.push PySem.W.emptyDict).push (PySem.W.instObj C s.heap.objs.size)).get? (s.heap.objs.size+1)=some (PySem.W.instObj C s.heap.objs.size):=by
    have:=Heap.get?_push_size (s.heap.push PySem.W.emptyDict) (o:=PySem.W.instObj C s.heap.objs.size) rfl
    rwa [Heap.size_push] at this
  have e3:(s.heap.push PySem.W.emptyDict).Ns s.heap.objs.size (fun _=>none):=⟨PySem.W.emptyDict,#[],_,e1,rfl,(fun e he=>absurd he (by simp)),fun _=>rfl⟩
  have I1:=I.laid (a:=s.heap.objs.size) (o:=.own (s.heap.objs.size+1)) (h':=s.heap.push PySem.W.emptyDict) (t':=s.toks) (fun b u q=>Heap.get?_push_of_some _ q) (Nat.le_refl _) ⟨_,e1⟩
  refine I1.laid (a:=s.heap.objs.size+1) (o:=.ins C s.heap.objs.size []) (t':=s.toks) (fun b u q=>Heap.get?_push_of_some _ q) (Nat.le_of_eq (Heap.size_push _ _)) ?_
  have ne:s.heap.objs.size≠s.heap.objs.size+1:=Nat.ne_of_lt (Nat.lt_succ_self _)
  refine ⟨by rw [upd_ne ne,upd_same],Nat.zero_le _,ne,e2,fun _=>none,(Heap.Ns1.of_empty e3).at fun o q=>Heap.get?_push_of_some _ q,fun _=>True.intro,fun y hy=>absurd rfl hy⟩
theorem attr_of {prog:Program} {w:World} {env:Env} {e:Expr} {f:Str} {pos:Pos} {s:Shared} {Q:Value→Shared→Prop} (hb:attributeBase e f env (eval e env)=eval e env)
    (h:wpAny (model prog w) A (eval e env) (fun o s₁=>wpAny (model prog w) A (getAttr o f true) Q E s₁) E s):wpAny (model prog w) A (eval (.Attribute e f pos) env) Q E s :=
  Attribute_any_ h (by rw [arm_eval_Attribute,hb])
end
def tFld (K:PySem.W.Frag) (ta:TE) (f:Str):TE:=fun σ H Q=>ta σ H fun x H1=>∃ a C dx fs v,x=.ref a∧H1 a=some (.ins C dx fs)∧Cls K C∧NoAttr K C f∧fs.lookup f=some v∧Q v H1
def sFld (K:PySem.W.Frag) (ta tv:TE) (f:Str):TS:=fun D σ H=>tv σ H fun y H1=>ta σ H1 fun x H2=>∃ a C dx fs,x=.ref a∧H2 a=some (.ins C dx fs)∧Cls K C∧NoAttr K C f∧fs.length<1000 ∧
  D.nx σ (upd H2 a (.ins C dx (putF f y fs)))
section
variable {X:Cx} {o e value:Expr} {f:Str} {pos pos' tpos:Pos} {ta tv:TE}
theorem pe_fld (he:PE X e ta) (hb:attributeBase e f X.env (eval e X.env)=eval e X.env):PE X (.Attribute e f pos) (tFld X.K ta f):=by
  intro pins s σ H Q I h
  refine attr_of hb (thn (he pins s σ H _ I h) fun u s1 ⟨x,H1,I1,rx,a,C,dx,fs,v,ex,ea,c,n,l,q⟩=>?_)
  subst ex
  obtain rfl:u=Value.ref a:=rx
  exact getattr_ok I1 ea c n l fun u' s2 I2 ru=>⟨v,H1,I2,ru,q⟩
theorem ps_fld (ha:PE X o ta) (hv:PE X value tv) (hs:swapsWith value (some (.Attribute o f pos')) pos.line X.env=pure false):PS X (.Assign [.Attribute o f pos'] value pos) (sFld X.K ta tv f):=by
  intro pins s σ H D I h
  refine plainObj_wpAny_Assign_Attribute (thn (hv pins s σ H _ I h) fun u s1 ⟨y,H1,I1,ry,q⟩=>thn (ha pins s1 σ H1 _ I1 q) fun ov s2 ⟨x,H2,I2,rx,a,C,dx,fs,ex,ea,c,n,l,q2⟩=>?_) hs
  subst ex
  obtain rfl:ov=Value.ref a:=rx
  exact setattr_ok I2 ea c n l ry fun s3 I3=>⟨σ,_,I3,q2⟩
end
section
variable {X:Cx} {pins:List (Addr×Obj)} {σ:St} {H:Hp} {s:Shared} {A:Around} {E:Value→Shared→Prop} {Q:Value→Shared→Prop} {c:Value} {b:Bool}
inductive TyOf (K:PySem.W.Frag) (H:Hp):V→Value→Prop where
  | non:TyOf K H .non (.type "NoneType")
  | bl (x:Bool):TyOf K H (.bl x) (.type "bool")
  | int (i:Int):TyOf K H (.int i) (.type "int")
  | str (x:Str):TyOf K H (.str x) (.type "str")
  | flt (x:UInt64):TyOf K H (.flt x) (.type "float")
  | lst {a:Addr} {xs:List V} (e:H a=some (.lst xs)):TyOf K H (.ref a) (.type "list")
  | frz {a:Addr} {o:Obj} {xs:List V} (e:H a=some (.frz o (.lst xs))):TyOf K H (.ref a) (.type "list")
  | tup {a:Addr} {xs:List V} (e:H a=some (.tup xs)):TyOf K H (.ref a) (.type "tuple")
  | dK {a:Addr} {kvs:List (Key×V)} (e:H a=some (.dK kvs)):TyOf K H (.ref a) (.type "dict")
  | dT {a:Addr} {kvs:List (List Key×V)} (e:H a=some (.dT kvs)):TyOf K H (.ref a) (.type "dict")
  | ins {a C dx:Addr} {fs:List (Str×V)} (e:H a=some (.ins C dx fs)) (cl:Cls K C) (ha:PySem.W.findIn K (.ref C) "__class__" = some (some (.builtin "object.__class__")))
      (hn:PySem.W.specialIn K (.builtin "object.__class__") "__get__" = some (some (.builtin "getset_descriptor.__get__"))) (htk:PySem.W.takesIn K (.builtin "object.__class__")=some true)
      (hm:PySem.W.mroIn K C (.type "object")=some true):TyOf K H (.ref a) (.ref C)
theorem isinst_ok {x:V} {u t:Value} (I:Inv X pins σ H s) (rx:RelV x u) (ty:TyOf X.K H x t) (e:PySem.W.kitOne X.K t c=some b) (h:∀ tk,Q (.bool b) { s with toks:=tk }) :
    wpAny (model X.prog X.w) A (call (.builtin "isinstance") [u,c]) Q E s:=by
  cases ty with
  | non=>cases (show u=Value.none from rx); exact PySem.W.kia_one PySem.W.kitx_none I.kIn True.intro e (fun z=>nomatch z) h
  | bl y=>cases (show u=Value.bool y from rx); exact PySem.W.kia_one PySem.W.kitx_bool I.kIn True.intro e (fun z=>nomatch z) h
  | int i=>obtain ⟨t,q⟩:=(show ∃ t,u=Value.int i t from rx); cases q; exact PySem.W.kia_one PySem.W.kitx_int I.kIn True.intro e (fun z=>nomatch z) h
  | str y=>obtain ⟨t,q⟩:=(show ∃ t,u=Value.str y t from rx); cases q; exact PySem.W.kia_one PySem.W.kitx_str I.kIn True.intro e (fun z=>nomatch z) h
  | flt y=>obtain ⟨t,q⟩:=(show ∃ t,u=Value.float y t from rx); cases q; exact PySem.W.kia_one PySem.W.kitx_float I.kIn True.intro e (fun z=>nomatch z) h
  | @lst a xs ea =>
    cases (show u=Value.ref a from rx)
    obtain ⟨_,_,n,_,h1⟩:=(show ObjOk X.prog X.w H s.heap a (.lst xs) from I.hok a _ ea)
    exact PySem.W.kia_one PySem.W.kitx_list I.kIn ⟨_,h1,rfl⟩ e (fun z=>nomatch z) h
  | @frz a ob xs ea =>
    cases (show u=Value.ref a from rx)
    obtain ⟨_,_,_,n,_,h1⟩:=(show ObjOk X.prog X.w H s.heap a (.frz ob (.lst xs)) from I.hok a _ ea)
    exact PySem.W.kia_one PySem.W.kitx_list I.kIn ⟨_,h1,rfl⟩ e (fun z=>nomatch z) h
  | @tup a xs ea =>
    cases (show u=Value.ref a from rx)
    obtain ⟨_,_,_,p⟩:=(show ObjOk X.prog X.w H s.heap a (.tup xs) from I.hok a _ ea)
    obtain ⟨o,h1,h2,_⟩:=p
    exact PySem.W.kia_one PySem.W.kitx_tuple I.kIn ⟨o,h1,h2⟩ e (fun z=>nomatch z) h
  | @dK a kvs ea =>
    cases (show u=Value.ref a from rx)
    obtain ⟨_,_,vs,_,p⟩:=(show ObjOk X.prog X.w H s.heap a (.dK kvs) from I.hok a _ ea)
    obtain ⟨o,es,ep,h1,h2,_⟩:=p
    exact PySem.W.kia_one PySem.W.kitx_dict I.kIn ⟨o,h1,h2.1⟩ e (fun z=>nomatch z) h
  | @dT a kvs ea =>
    cases (show u=Value.ref a from rx)
    obtain ⟨_,_,xs,_,o,es,ep,h1,h2,_⟩:=(show ObjOk X.prog X.w H s.heap a (.dT kvs) from I.hok a _ ea)
    exact PySem.W.kia_one PySem.W.kitx_dict I.kIn ⟨o,h1,h2.1⟩ e (fun z=>nomatch z) h
  | @ins a C dx fs ea cl ha hn htk hm =>
    cases (show u=Value.ref a from rx)
    obtain ⟨mA,O,_⟩:=ins_get I.hok ea
    obtain ⟨od,J,_⟩:=O.look
    exact PySem.W.kia_one (PySem.W.kitx_own (cl.get _) cl.hd ha hn htk hm) I.kIn J e (fun z=>nomatch z) h
end
end L2
namespace L2
open PySem PySem.Spec PyProof.Rows
structure Room (k:Nat) (A:Around):Prop where
  dp:A.depth+3*k+5<recursionLimit
  un:A.units+16*k+200<cLine
  hd:130≤k→A.handled=none
theorem Room.mono {j k:Nat} {A:Around} (r:Room k A) (h:j≤k):Room j A:=⟨by have:=r.dp; omega,by have:=r.un; omega,fun z=>r.hd (by omega)⟩
theorem Room.deeper {k:Nat} {A:Around} (r:Room (k+1) A) (env:Env):Room k (A.deeper env) :=
  ⟨by have:=r.dp; show A.depth+1+3*k+5<_; omega,by have:=r.un; show A.units+3+16*k+200<_; omega,fun z=>r.hd (by omega)⟩
theorem make_depth {A:Around} {C:Addr} {us:List Value} {kw:List (Str×Value)}:(A.under (.builtin "type.__call__" ⟨.ref C::us,kw⟩)).depth=A.depth+1:=by
  first | rfl | simp [Around.under,Code.weight,Code.isCreation,Code.isGuard,Code.isCaller,Code.frames,Code.isFrame,guardIds]
theorem make_units {A:Around} {C:Addr} {us:List Value} {kw:List (Str×Value)}:(A.under (.builtin "type.__call__" ⟨.ref C::us,kw⟩)).units=A.units+1:=by
  first | rfl | simp [Around.under,Code.cUnits,Code.frames,Code.isFrame]
theorem Room.make {k:Nat} {A:Around} (r:Room (k+1) A) (C:Addr) (us:List Value) (kw:List (Str×Value)):Room k (A.under (.builtin "type.__call__" ⟨.ref C::us,kw⟩)) :=
  ⟨by have:=r.dp; rw [make_depth]; omega,by have:=r.un; rw [make_units]; omega,fun z=>r.hd (by omega)⟩
theorem Room.depth {k:Nat} {A:Around} (r:Room k A):A.depth<recursionLimit:=by have:=r.dp; omega
theorem Room.units {k:Nat} {A:Around} (r:Room k A):A.units+64<cLine:=by have:=r.un; omega
def tNil:TA:=fun _ H Q=>Q [] H
def tCons (ta:TE) (tr:TA):TA:=fun σ H Q=>ta σ H fun x H1=>tr σ H1 fun xs H2=>Q (x::xs) H2
section
variable {X:Cx} {e:Expr} {es:List Expr} {te:TE} {t:TA} {pos:Pos}
theorem pa_nil:PA X [] tNil:=fun _ _ _ _ H Q I h=>Calls.spliced_nil ⟨[],H,I,.nil,h⟩
theorem pa_cons (ha:PE X e te) (hr:PA X es t) (hs:starEach (e::es) X.env=(false,eval e X.env)::starEach es X.env:=by rfl):PA X (e::es) (tCons te t):=by
  intro pos pins s σ H Q I h
  rw [hs]
  show wpAny _ _ (spliced ((false,eval e X.env)::backTo pos (starEach es X.env))) _ _ s
  refine Calls.spliced_cons (thn (ha pins s σ H _ I h) fun u s1 ⟨x,H1,I1,r1,q1⟩=>?_)
  exact thn (hr pos pins s1 σ H1 _ I1 q1) fun us s2 ⟨xs,H2,I2,r2,q2⟩=>⟨x::xs,H2,I2,.cons r1 r2,q2⟩
def tTup (t:TA):TE:=fun σ H Q=>t σ H fun xs H1=>xs.length≤sizeLine∧∀ p,H1 p=none→Q (.ref p) (upd H1 p (.tup xs))
def tLst (t:TA):TE:=fun σ H Q=>t σ H fun xs H1=>xs.length≤sizeLine∧∀ p,H1 p=none→Q (.ref p) (upd H1 p (.lst xs))
theorem pe_tup {x1} (h:PA X es t):PE X (.Tuple es x1 pos) (tTup t):=by
  intro pins s σ H Q I hq
  refine wpAny_Tuple_spliced (thn (h pos pins s σ H _ I hq) fun us s1 ⟨xs,H1,I1,r,z,q⟩=>⟨by rw [← r.length]; exact z,?_⟩)
  have hf:H1 s1.heap.objs.size=none:=I1.hok.fresh (Nat.le_refl _)
  refine ⟨.ref s1.heap.objs.size,upd H1 s1.heap.objs.size (.tup xs),I1.laid (t':=s1.toks) (fun b u e=>Heap.get?_push_of_some _ e) (Nat.le_refl _) ?_,rfl,q _ hf⟩
  exact ⟨z,us,r,⟨_,Heap.get?_push_size _ rfl,rfl,_,rfl⟩⟩
theorem pe_lst (h:PA X es t):PE X (.List es pos) (tLst t):=by
  intro pins s σ H Q I hq
  refine wpAny_List_spliced (thn (h pos pins s σ H _ I hq) fun us s1 ⟨xs,H1,I1,r,z,q⟩=>⟨by rw [← r.length]; exact z,?_⟩)
  have hf:H1 s1.heap.objs.size=none:=I1.hok.fresh (Nat.le_refl _)
  refine ⟨.ref s1.heap.objs.size,upd H1 s1.heap.objs.size (.lst xs),I1.laid (t':=s1.toks) (fun b u e=>Heap.get?_push_of_some _ e) (Nat.le_refl _) ?_,rfl,q _ hf⟩
  exact ⟨z,us,0,r,Heap.get?_push_size _ rfl⟩
end
abbrev Sp:=List V→Hp→VK→XK→Prop
abbrev CXT:=Option Value→List Env→Hp→Shared→XK→Value→Shared→Prop
structure Env0 (P:Program) (w:World) (K:PySem.W.Frag) (mg:Str→Option Value) (base:Heap) (A:Around) (outer:List Env) (s:Shared) (H:Hp):Prop where
  frames:A.frames=some outer
  mod:Mod K mg base
  bs:∀ b o,base.get? b=some o→s.heap.get? b=some o∧H b=none
  bsz:base.objs.size≤s.heap.objs.size
  funs:s.heap.FunFrames base outer
  frf:∀ b∈frs outer,H b=none
  hok:HOk P w H s.heap
  bare:AllBare s.gens
  hdl:HB base A
def CE (outer:List Env) (P:Program) (w:World) (H:Hp) (s:Shared) (Q:VK) (u:Value) (s':Shared):Prop :=
  ∃ v H',s'.os=s.os∧AllBare s'.gens∧Un (frs outer) [] H H' s.heap s'.heap∧HOk P w H' s'.heap∧RelV v u∧Q v H'
def CR (CX:CXT) (hh:Option Value) (outer:List Env) (P:Program) (w:World) (H:Hp) (s:Shared) (Q:VK) (E:XK) (r:Result) (s':Shared):Prop :=
  match r with
  | .ok (.ret u)=>CE outer P w H s Q u s'
  | .ok _=>False
  | .error e=>CX hh outer H s E e s'
structure FnOk (P:Program) (w:World) (K:PySem.W.Frag) (mg:Str→Option Value) (base:Heap) (CX:CXT) (k:Nat) (f:Addr) (fd:FuncData) (ps:List Str) (sp:Sp):Prop where
  len:∀ vs H Q E,sp vs H Q E→vs.length=ps.length
  run:∀ (A:Around) (outer:List Env) (s:Shared) (H:Hp) (args:Args) (us:List Value) (vs:List V) (Q:VK) (E:XK),Room k A→Env0 P w K mg base A outer s H→BindsTo s fd args (ps.zip us)→Vals vs us→sp vs H Q E →
    codeAny (model P w) A (.call (.ref f) args) (CR CX A.handled outer P w H s Q E) s
theorem Env0.make {P:Program} {w:World} {K:PySem.W.Frag} {mg:Str→Option Value} {base:Heap} {A:Around} {outer:List Env} {s:Shared} {H:Hp} (e:Env0 P w K mg base A outer s H) (C:Addr) (us:List Value) (kw:List (Str×Value)) :
    Env0 P w K mg base (A.under (.builtin "type.__call__" ⟨.ref C::us,kw⟩)) outer s H:=⟨by first | exact e.frames | (simpa [Around.under,Code.envs,Code.isFrame,pushEnvs] using e.frames),e.mod,e.bs,e.bsz,e.funs,e.frf,e.hok,e.bare,e.hdl⟩
section
variable {X:Cx} {pins:List (Addr×Obj)} {σ:St} {H:Hp} {s s':Shared}
theorem Inv.after {Q:VK} {u:Value} (I:Inv X pins σ H s) (h:CE X.stack X.prog X.w H s Q u s'):EP X pins σ Q u s':=by
  obtain ⟨v,H',os,bare,un,hok,r,q⟩:=h
  obtain ⟨hh,g,d,t,os'⟩:=s'
  obtain rfl:os'=s.os:=os
  exact ⟨v,H',I.call (h':=hh) (g':=g) (d':=d) (t':=t) (ch:=[]) un hok bare (fun b z=>absurd z (by simp)),r,q⟩
end
def tCall (sp:Sp) (dvs:List V) (E:XK) (t:TA):TE:=fun σ H Q=>t σ H fun vs H1=>sp (vs++dvs) H1 Q E
def tMeth (C:Addr) (m:Str) (sp:Sp) (dvs:List V) (E:XK) (ta:TE) (t:TA):TE:=fun σ H Q=>ta σ H fun x H1=>∃ a dx fs,x=.ref a∧H1 a=some (.ins C dx fs)∧fs.lookup m=none ∧
  t σ H1 fun vs H2=>sp (x::(vs++dvs)) H2 Q E
def tMake (C:Addr) (sp:Sp) (dvs:List V) (E:XK) (t:TA):TE:=fun σ H Q=>t σ H fun vs H1=>∀ x dx,H1 x=none→H1 dx=none→dx≠x →
  sp (.ref x::(vs++dvs)) (upd (upd H1 dx (.own x)) x (.ins C dx [])) (fun v H2=>v=.non∧Q (.ref x) H2) E
def Binds (K:PySem.W.Frag) (fd:FuncData) (ps:List Str) (ds:List Value):Prop :=
  ∀ (s:Shared) (us:List Value),K.In s.heap→(us++ds).length=ps.length→BindsTo s fd ⟨us,[]⟩ (ps.zip (us++ds))
theorem Binds.all {K:PySem.W.Frag} {fd:FuncData} {ps:List Str} (h:∀ us:List Value,us.length=ps.length→bindArgs fd ⟨us,[]⟩=pure (ps.zip us)):Binds K fd ps []:=fun s us _ hl=>by
  rw [List.append_nil] at hl ⊢
  exact .of_eq (h us hl)
def Passes (CX:CXT) (X:Cx) (E:XK):Prop:=∀ (pins:List (Addr×Obj)) (σ:St) (H:Hp) (s:Shared) (e:Value) (s':Shared),Inv X pins σ H s→CX X.A.handled X.stack H s E e s'→X.xe e s'
section
variable {X:Cx} {CX:CXT} {k:Nat} {f C:Addr} {fd:FuncData} {ps:List Str} {sp:Sp} {dvs:List V} {ds:List Value} {E:XK} {x m:Str} {p pos apos:Pos} {e o:Expr} {es:List Expr} {ta:TE} {t:TA}
end
def PK (X:Cx) (kws:List Keyword) (t:TA):Prop :=
  ∀ (pos:Pos) (pins:List (Addr×Obj)) (s:Shared) (σ:St) (H:Hp) (Q:List V→Hp→Prop),Inv X pins σ H s→t σ H Q→wpAny (model X.prog X.w) X.A (evalAll ((backToKw pos (keywordEach kws X.env)).map (·.2))) (AP X pins σ Q) X.xe s
section
variable {X:Cx} {CX:CXT} {k:Nat} {f C:Addr} {fd:FuncData} {ps ks:List Str} {sp:Sp} {E:XK} {x m:Str} {p pos apos kpos:Pos} {e o:Expr} {es:List Expr} {kws:List Keyword} {te ta:TE} {t tk:TA} {nm:Option Str}
theorem pk_nil:PK X [] tNil:=fun _ _ _ _ H Q I h=>wpAny_evalAll_nil ⟨[],H,I,.nil,h⟩
theorem pk_cons (ha:PE X e te) (hr:PK X kws t):PK X (⟨nm,e,kpos⟩::kws) (tCons te t):=by
  intro pos pins s σ H Q I h
  show wpAny _ _ (evalAll ((do let v ← eval e X.env; standAt pos; pure v)::(backToKw pos (keywordEach kws X.env)).map (·.2))) _ _ s
  refine wpAny_evalAll_cons (wpAny_bind (thn (ha pins s σ H _ I h) fun u s1 ⟨x,H1,I1,r1,q1⟩=>wpAny_bind (wpAny_standAt (wpAny_pure ?_))))
  exact thn (hr pos pins s1 σ H1 _ I1 q1) fun us s2 ⟨xs,H2,I2,r2,q2⟩=>⟨x::xs,H2,I2,.cons r1 r2,q2⟩
end
structure FnScope (N P:List Str) (sc:Scope):Prop where
  kind:sc.kind=.function
  co:sc.isCoroutine=false
  gen:sc.isGenerator=false
  nd:N.Nodup
  pre:N.take P.length=P
  par:∀ x∈P,sc.names.lookup x=some .local∨sc.names.lookup x=some .cell
  nofree:∀ y∈sc.names,y.2≠.free
theorem bindL_out {kindOf:Str→Option NameKind} {x:Str}:∀ {binds:List (Str×Value)} {m:Str→Option Value},(∀ v,(x,v)∉binds)→bindL kindOf binds m x=m x
  | [],_,_=>rfl
  | (n,v)::r,m,h=>by
    unfold bindL
    rw [bindL_out fun w hw=>h w (List.mem_cons_of_mem _ hw)]
    split
    · have:x≠n:=by rintro rfl; exact h v List.mem_cons_self
      simp [this]
    · rfl
theorem bindC_out {kindOf:Str→Option NameKind} {x:Str}:∀ {binds:List (Str×Value)} {m:Str→Option Value},(∀ v,(x,v)∉binds)→bindC kindOf binds m x=m x
  | [],_,_=>rfl
  | (n,v)::r,m,h=>by
    unfold bindC
    rw [bindC_out fun w hw=>h w (List.mem_cons_of_mem _ hw)]
    split
    · rfl
    · have:x≠n:=by rintro rfl; exact h v List.mem_cons_self
      simp [this]
theorem bindL_get {kindOf:Str→Option NameKind} {x:Str} {v:Value}:∀ {P:List Str} {vs:List Value} {i:Nat} {m:Str→Option Value},P.Nodup→P[i]?=some x→vs[i]?=some v→kindOf x=some .local →
    bindL kindOf (P.zip vs) m x=some v
  | [],_,_,_,_,h,_,_=>by simp at h
  | _::_,[],_,_,_,_,h,_=>by simp at h
  | p::P,w::vs,0,m,nd,h1,h2,hk=>by
    simp at h1 h2; subst h1; subst h2
    show bindL kindOf ((p,w)::P.zip vs) m p=_
    unfold bindL
    rw [bindL_out fun v hv=>(List.nodup_cons.mp nd).1 (List.of_mem_zip hv).1,if_pos hk]
    simp
  | p::P,w::vs,i+1,m,nd,h1,h2,hk=>by
    show bindL kindOf ((p,w)::P.zip vs) m x=_
    unfold bindL
    exact bindL_get (i:=i) (List.nodup_cons.mp nd).2 (by simpa using h1) (by simpa using h2) hk
theorem bindC_get {kindOf:Str→Option NameKind} {x:Str} {v:Value}:∀ {P:List Str} {vs:List Value} {i:Nat} {m:Str→Option Value},P.Nodup→P[i]?=some x→vs[i]?=some v→kindOf x≠some .local →
    bindC kindOf (P.zip vs) m x=some v
  | [],_,_,_,_,h,_,_=>by simp at h
  | _::_,[],_,_,_,_,h,_=>by simp at h
  | p::P,w::vs,0,m,nd,h1,h2,hk=>by
    simp at h1 h2; subst h1; subst h2
    show bindC kindOf ((p,w)::P.zip vs) m p=_
    unfold bindC
    rw [bindC_out fun v hv=>(List.nodup_cons.mp nd).1 (List.of_mem_zip hv).1,if_neg hk]
    simp
  | p::P,w::vs,i+1,m,nd,h1,h2,hk=>by
    show bindC kindOf ((p,w)::P.zip vs) m x=_
    unfold bindC
    exact bindC_get (i:=i) (List.nodup_cons.mp nd).2 (by simpa using h1) (by simpa using h2) hk
def start (N:List Str) (vs:List V):St:=vs.map some++List.replicate (N.length-vs.length) none
def cxOf (CX:CXT) (P:Program) (w:World) (K:PySem.W.Frag) (mg:Str→Option Value) (base:Heap) (N:List Str) (qual:Str) (scope:Scope) (f:Addr) (cd:Value) (A:Around) (outer:List Env) (s:Shared) (H:Hp) (E:XK):Cx where
  prog:=P
  w:=w
  K:=K
  mg:=mg
  base:=base
  A:=A.deeper (envOfC qual scope s.heap.objs.size f cd)
  N:=N
  s₀:=s
  H₀:=H
  env:=envOfC qual scope s.heap.objs.size f cd
  outer:=outer
  stack:=envOfC qual scope s.heap.objs.size f cd::outer
  ex:=[]
  calm:=true
  fn:=fun _=>true
  pn:=[]
  xe:=fun e s'=>wpAny (model P w) (A.deeper (envOfC qual scope s.heap.objs.size f cd)) (leaving (envOfC qual scope s.heap.objs.size f cd) e) (fun _ s''=>CX A.handled outer H s E e s'') (fun e' s''=>CX A.handled outer H s E e' s'') s'
theorem cell_has {sc:Scope} {n:Nat} {x:Str} (h:sc.names.lookup x=some .cell):∃ c,(cellsFrom n sc.names []).lookup x=some c:=by
  have q:=PySem.W.cellsFrom_some sc.names n [] (.inl h)
  exact Option.isSome_iff_exists.mp q
theorem inv_start {CX:CXT} {P:Program} {w:World} {K:PySem.W.Frag} {mg:Str→Option Value} {base:Heap} {N ps:List Str} {qual:Str} {scope:Scope} {f:Addr} {cd:Value} {A:Around} {outer:List Env} {s s1:Shared} {H:Hp} {E:XK} {us:List Value} {vs:List V}
    (S:FnScope N ps scope) (e0:Env0 P w K mg base A outer s H) (hl:vs.length=ps.length) (r:Vals vs us)
    (x:InCallC s s.heap.objs.size (bindL (envOfC qual scope s.heap.objs.size f cd).kindOf (ps.zip us) fun _=>none) (cellsFrom (s.heap.objs.size+1) scope.names []) (bindC (envOfC qual scope s.heap.objs.size f cd).kindOf (ps.zip us) fun _=>none) s1) :
    Inv (cxOf CX P w K mg base N qual scope f cd A outer s H E) [] (start N vs) H s1:=by
  have hpl:ps.length≤N.length:=by have:=congrArg List.length S.pre; rw [List.length_take] at this; omega
  obtain ⟨h1,tk,rfl,hk⟩:=x.done
  have noA:∀ b:Addr,b∉(cxOf CX P w K mg base N qual scope f cd A outer s H E).ex:=fun b z=>absurd (show b∈([]:List Addr) from z) (by simp)
  refine ⟨⟨e0.mod,S.kind,rfl,rfl,Nat.le_refl _,fun y z c h1 h2=>?_,fun y hy=>?_,fun y c _ h=>?_,fun _=>e0.hdl.toP,Around.frames_deeper e0.frames,.inr ⟨rfl,rfl⟩,fun b z=>absurd z (noA b),e0.bs,e0.bsz,fun b _ _=>noA b,fun b z=>absurd z (noA b),e0.funs,e0.frf⟩,
    rfl,e0.bare,Un.kept hk,⟨_,x.toInCall.ns,fun i y v h1 h2 h3=>?_⟩,fun y c h=>⟨_,x.cell y c h⟩,e0.hok.fresh (Nat.le_refl _),fun y c h=>?_,fun p hp=>absurd (show p∈([]:List (Addr×Obj)) from hp) (by simp),e0.hok.kept hk,?_⟩
  · exact name_of_addr x.apart (PySem.mem_of_lookup h1) (PySem.mem_of_lookup h2)
  · have hy:scope.names.lookup y=some .cell∨scope.names.lookup y=some .free:=hy
    rcases hy with hy | hy
    · exact cell_has hy
    · exact absurd rfl (S.nofree _ (PySem.mem_of_lookup hy))
  · exact Nat.le_of_lt (x.above y c (PySem.mem_of_lookup h))
  · have hi:i<vs.length:=by
      unfold start at h2
      by_cases hi:i<vs.length
      · exact hi
      · rw [List.getElem?_append_right (by simpa using hi)] at h2
        rw [List.getElem?_replicate] at h2
        split at h2 <;> cases h2
    have ha:vs[i]?=some v:=by
      unfold start at h2
      rw [List.getElem?_append_left (by simpa using hi),List.getElem?_map] at h2
      cases e:vs[i]? with
      | none=>rw [e] at h2; cases h2
      | some a=>rw [e] at h2; cases h2; rfl
    obtain ⟨u,hu,rv⟩:=r.get ha
    have hp:ps[i]?=some y:=by
      rw [← S.pre,List.getElem?_take_of_lt (by omega)]; exact h1
    have ndP:ps.Nodup:=by rw [← S.pre]; exact S.nd.sublist (List.take_sublist _ _)
    refine ⟨u,rv,?_⟩
    rcases S.par y (List.mem_of_getElem? hp) with k | k
    · exact .inl ⟨k,bindL_get ndP hp hu k⟩
    · obtain ⟨c,e⟩:=cell_has (n:=s.heap.objs.size+1) k
      refine .inr ⟨.inl k,c,e,?_⟩
      have q:=x.cell y c e
      rw [bindC_get ndP hp hu (by show scope.names.lookup y≠_; rw [k]; decide)] at q
      exact q
  · exact e0.hok.fresh (Nat.le_of_lt (x.above y c (PySem.mem_of_lookup h)))
  · unfold start
    show _=N.length
    rw [List.length_append,List.length_map,List.length_replicate]
    omega
theorem fn_of {CX:CXT} {P:Program} {w:World} {K:PySem.W.Frag} {mg:Str→Option Value} {base:Heap} {k:Nat} {f:Addr} {name qual:Str} {params:Arguments} {body:List Stmt} {scope:Scope} {dV kV doc pm cdv ct oc:Value} {an od:Option Addr}
    {osl:Array (Option Value)} {N ps:List Str} {sp:Sp} (lk:K.lookup f=some ⟨oc,od,.func (PySem.W.fnOf name qual params body scope dV kV doc pm an cdv ct),osl⟩) (hcd:PySem.W.codeIn K cdv qual=true) (S:FnScope N ps scope)
    (len:∀ vs H Q E,sp vs H Q E→vs.length=ps.length)
    (hbody:∀ (A:Around) (outer:List Env) (s:Shared) (H:Hp) (vs:List V) (Q:VK) (E:XK),Room k (A.deeper (envOfC qual scope s.heap.objs.size f cdv))→sp vs H Q E →
      ∃ t,PSs (cxOf CX P w K mg base N qual scope f cdv A outer s H E) body t∧t { nx:=fun _ H'=>Q .non H',rt:=Q } (start N vs) H) :
    FnOk P w K mg base CX (k+1) f (PySem.W.fnOf name qual params body scope dV kV doc pm an cdv ct) ps sp:=by
  refine ⟨len,fun A outer s H args us vs Q E hr e0 hb r hsp=>?_⟩
  have hl:=len _ _ _ _ hsp
  have KX:K.In s.heap:=e0.mod.kin.keeps fun b o e=>(e0.bs b o e).1
  have lim:s.heap.NoLimit:=e0.mod.nolimit.keeps fun b o e=>(e0.bs b o e).1
  have hkind:∀ y∈ps.zip us,scope.names.lookup y.1=some .local∨(scope.names.lookup y.1=some .cell∧((cellsFrom (s.heap.objs.size+1) scope.names []).lookup y.1).isSome=true):=fun ⟨n,v⟩ hy=>by
    rcases S.par n (List.of_mem_zip hy).1 with q | q
    · exact .inl q
    · exact .inr ⟨q,PySem.W.cellsFrom_some _ _ _ (.inl q)⟩
  refine codeAny_call_function hr.depth (KX _ _ lk) rfl S.co S.gen rfl (PySem.W.codeRec_of KX hcd) (hb _ _ _ _ ?_)
  refine wpAny_newFunctionEnv_cells S.kind hkind fun env he s1 x=>?_
  subst he
  refine ⟨lim.keeps x.toInCall.keep,codeAny_func ?_⟩
  obtain ⟨t,ht,hq⟩:=hbody A outer s H vs Q E (hr.deeper _) hsp
  have I:Inv (cxOf CX P w K mg base N qual scope f cdv A outer s H E) [] (start N vs) H s1:=inv_start S e0 hl r x
  refine wpAny_mono (ht [] s1 (start N vs) H _ I hq) (fun fl s' hs=>?_) fun e s' hs=>hs
  have fin:∀ {σ':St} {H':Hp} {v:V} {u:Value},Inv (cxOf CX P w K mg base N qual scope f cdv A outer s H E) [] σ' H' s'→RelV v u→Q v H'→CE outer P w H s Q u s' :=
    fun {σ' H' v u} J rv q=>⟨v,H',J.os,J.bare,J.base,J.hok,rv,q⟩
  cases fl with
  | ret u =>
    obtain ⟨v,σ',H',J,rv,q⟩:=hs
    exact fin J rv q
  | next =>
    obtain ⟨σ',H',J,q⟩:=hs
    exact fin (v:=V.non) (u:=Value.none) J rfl q
  | brk =>
    obtain ⟨_,_,_,q⟩:=hs
    exact False.elim q
  | cont =>
    obtain ⟨_,_,_,q⟩:=hs
    exact False.elim q
end L2
namespace L2
open PySem PySem.Spec PyProof.Rows
section
variable {X:Cx} {x:Str} {p pos:Pos} {e:Expr} {es:List Expr} {t:TA} {id T:String} {r:List V→Hp→VK→Prop}
def tCB (r:List V→Hp→VK→Prop) (t:TA):TE:=fun σ H Q=>t σ H fun vs H1=>r vs H1 Q
theorem pe_callB (hc:CallR X (.builtin id) r) (hg:Gl X x) (hm:X.mg x=none) (hv:bootBuiltins x=some (.builtin id)) (ha:PA X (e::es) t) (hn:x ≠ "__name__" := by decide) (hdb:(x==("__debug__" : Str))=false:=by decide)
    (he:starEach (e::es) X.env=(false,eval e X.env)::starEach es X.env:=by rfl) (hpl:(backTo pos (starEach es X.env)).any (·.1)=false:=by rfl):PE X (.Call (.Name x p) (e::es) [] pos) (tCB r t):=by
  intro pins s σ H Q I h
  refine wpAny_Call_Name_kw (ld_blt I hg hm hv ?_ hn hdb)
  exact PyProof.Rows.callWith_builtin1 (thn (ha pos pins s σ H _ I h) fun us s1 ⟨vs,H1,I1,r1,q1⟩=>hc pins s1 σ H1 vs us Q I1 r1 q1) he hpl
theorem pe_callTy (hc:CallR X (.type T) r) (hg:Gl X x) (hm:X.mg x=none) (hv:bootBuiltins x=some (.type T)) (ha:PA X (e::es) t) (hn:x ≠ "__name__" := by decide) (hdb:(x==("__debug__" : Str))=false:=by decide)
    (he:starEach (e::es) X.env=(false,eval e X.env)::starEach es X.env:=by rfl) (hpl:(backTo pos (starEach es X.env)).any (·.1)=false:=by rfl):PE X (.Call (.Name x p) (e::es) [] pos) (tCB r t):=by
  intro pins s σ H Q I h
  refine wpAny_Call_Name_kw (ld_blt I hg hm hv ?_ hn hdb)
  exact PyProof.Rows.callWith_type1 (thn (ha pos pins s σ H _ I h) fun us s1 ⟨vs,H1,I1,r1,q1⟩=>hc pins s1 σ H1 vs us Q I1 r1 q1) he hpl
end
end L2
namespace HT
open PySem PyProof.Rows
section
open PySem.SeqAt
open PySem.AutoSeq1 (wpAny_loadPart')
open PySem.MeetsSeq PySem.MeetsSeq2 PySem.MeetsSeq3
end
section
variable {prog:Program} {w:World} {A:Around} {E:Value→Shared→Prop} {s:Shared}
theorem cat_tup {t b:Addr} {vs ws:List Value} {Q:Value→Shared→Prop} (ht:IsTup s.heap t vs.toArray) (hb:IsTup s.heap b ws.toArray) (hv:vs≠[])
    (h1:ws=[]→Q (.ref t) s) (h2:ws≠[]→Q (.ref s.heap.objs.size) { s with heap:=s.heap.push { cls:=.type "tuple",data:=.seq (vs++ws).toArray } })
    (hsz:vs.length+ws.length≤sizeLine):wpAny (model prog w) A (binaryOp .Add (.ref t) (.ref b)) Q E s:=by
  obtain ⟨⟨cls,dd,data,sl⟩,ho,hc,n,hd⟩:=id ht
  obtain ⟨⟨cls2,dd2,data2,sl2⟩,ho2,hc2,n2,hd2⟩:=id hb
  simp only at hc hd hc2 hd2
  subst hc hd hc2 hd2
  have e:vs.toArray++ws.toArray=(vs++ws).toArray:=by simp
  by_cases hw:ws=[]
  · exact concat_meets ⟨_,ho,rfl⟩ ⟨_,ho2,rfl⟩ noFill_tuple_add seq_tuple_add PySem.F.slot_tuple_add PySem.F.entry_tuple_add (PySem.F.args_tuple_add_2 _ _)
      (tuple_addW1 t b vs.toArray ws.toArray n n2 dd dd2 sl sl2 (by simpa using hv) (by simp [hw])) ⟨ho,ho2,h1 hw⟩
  · refine concat_meets ⟨_,ho,rfl⟩ ⟨_,ho2,rfl⟩ noFill_tuple_add seq_tuple_add PySem.F.slot_tuple_add PySem.F.entry_tuple_add (PySem.F.args_tuple_add_2 _ _)
      (tuple_addW2 t b vs.toArray ws.toArray n n2 dd dd2 sl sl2 (by simpa using hv) (by simpa using hw) (by rw [List.size_toArray,List.size_toArray]; exact hsz)) ⟨ho,ho2,?_⟩
    rw [e]
    exact h2 hw
def sIx (n d:Nat):Option Int→Nat
  | none=>d
  | some v=>if v<0 then (v+(n:Int)).toNat else min v.toNat n
theorem sIx_none (n d:Nat):sIx n d none=d:=rfl
theorem sIx_nat (n d k:Nat):sIx n d (some (k:Int))=min k n:=by
  show (if (k:Int)<0 then ((k:Int)+(n:Int)).toNat else min (k:Int).toNat n)=min k n
  rw [if_neg (by omega),Int.toNat_natCast]
theorem sIx_le (n d:Nat) (hd:d≤n) (o:Option Int):sIx n d o≤n:=by
  cases o with
  | none=>exact hd
  | some v =>
    show (if v<0 then (v+(n:Int)).toNat else min v.toNat n)≤n
    by_cases hv:v<0
    · rw [if_pos hv]; omega
    · rw [if_neg hv]; exact Nat.min_le_right _ _
theorem clip_eq (v:Int) (n d:Nat):(if v<0 then max (v+(n:Int)) 0 else min v (n:Int))=((sIx n d (some v):Nat):Int):=by
  show (if v<0 then max (v+(n:Int)) 0 else min v (n:Int))=(((if v<0 then (v+(n:Int)).toNat else min v.toNat n):Nat):Int)
  by_cases hv:v<0
  · simp only [if_pos hv]; omega
  · simp only [if_neg hv]; omega
theorem adjust_gen (lo hi:Option Int) (n:Nat):Builtin.Slice.sliceAdjust lo hi 1 (n:Int)=(((sIx n 0 lo:Nat):Int),((sIx n n hi:Nat):Int)):=by
  have h1:¬ ((1:Int)<0):=by omega
  unfold Builtin.Slice.sliceAdjust
  simp only [h1,if_false]
  refine Prod.ext ?_ ?_
  · cases lo with
    | none=>rfl
    | some v=>exact clip_eq v n 0
  · cases hi with
    | none=>rfl
    | some v=>exact clip_eq v n n
theorem places_gen (i j:Nat):Builtin.Slice.slicePlaces (i:Int) (j:Int) 1=j-i:=by
  unfold Builtin.Slice.slicePlaces
  have h1:(1:Int)>0:=by omega
  simp only [h1,if_true,Int.ediv_one]
  split <;> omega
theorem slicePart_ {v:Value} {o:Option Int} {Q:Option Int→Shared→Prop} (p:IsPart v o) (h:Q o s):wpAny (model prog w) A (Builtin.Slice.slicePartIndex v) Q E s:=by
  cases p with
  | none=>exact slicePart_none h
  | int i t=>exact slicePart_int h
theorem sliceApplied_gen {sl:Addr} {vl vu:Value} {lo hi:Option Int} {n:Nat} {Q:Int×Int×Nat→Shared→Prop} (hs:s.heap.IsSliceOf sl vl vu .none) (pl:IsPart vl lo) (pu:IsPart vu hi)
    (h:Q (((sIx n 0 lo:Nat):Int),1,sIx n n hi-sIx n 0 lo) s):wpAny (model prog w) A (Builtin.Slice.sliceApplied (.ref sl) (pure (n:Int))) Q E s:=by
  obtain ⟨os,hos,hcs,hds⟩:=id hs
  unfold Builtin.Slice.sliceApplied Builtin.Slice.sliceFields
  refine wpAny_bind (wpAny_bind (wpAny_field hos hds (x:=vl) rfl (wpAny_bind (wpAny_field hos hds (x:=vu) rfl (wpAny_bind (wpAny_field hos hds (x:=.none) rfl (wpAny_pure ?_)))))))
  refine wpAny_bind (slicePart_none ?_)
  show wpAny _ _ (if ((1:Int)==0)=true then _ else _) _ _ s
  rw [if_neg (by decide)]
  refine wpAny_bind (slicePart_ pl (wpAny_bind (slicePart_ pu (wpAny_bind (wpAny_pure ?_)))))
  show wpAny _ _ (match Builtin.Slice.sliceAdjust lo hi 1 (n:Int) with | (lo,hi)=>pure (lo,(1:Int),Builtin.Slice.slicePlaces lo hi 1)) _ _ s
  rw [adjust_gen lo hi n]
  show wpAny _ _ (pure (((sIx n 0 lo:Nat):Int),(1:Int),Builtin.Slice.slicePlaces ((sIx n 0 lo:Nat):Int) ((sIx n n hi:Nat):Int) 1)) _ _ s
  rw [places_gen]
  exact wpAny_pure h
theorem pick_gen (xs:Array Value) (i k:Nat):((List.range k).filterMap fun (m:Nat)=>xs[((i:Int)+(m:Int)*1).toNat]?).toArray=((xs.toList.drop i).take k).toArray:=by
  have e:(fun (m:Nat)=>xs[((i:Int)+(m:Int)*1).toNat]?)=fun m=>xs[i+m]?:=by
    funext m
    have:((i:Int)+(m:Int)*1).toNat=i+m:=by omega
    rw [this]
  rw [e]
  have:=pick_run xs i k
  rw [List.filterMap_map] at this
  have e2:((fun x=>xs[x]?) ∘ fun x=>i+x)=fun m=>xs[i+m]?:=rfl
  rw [e2] at this
  rw [this]
theorem getItem_tuple_cut {t sl:Addr} {items:Array Value} {vl vu:Value} {lo hi:Option Int} {Q:Value→Shared→Prop} (ht:IsTup s.heap t items) (hs:s.heap.IsSliceOf sl vl vu .none) (pl:IsPart vl lo) (pu:IsPart vu hi)
    (hw:¬ (sIx items.size 0 lo=0∧sIx items.size items.size hi=items.size))
    (h:Q (.ref s.heap.objs.size) { s with heap:=s.heap.push { cls:=.type "tuple",data:=.seq ((items.toList.drop (sIx items.size 0 lo)).take (sIx items.size items.size hi-sIx items.size 0 lo)).toArray } })
    (hsz:items.size≤sizeLine):wpAny (model prog w) A (getItem (.ref t) (.ref sl)) Q E s:=by
  have htake:sizeOk (.seq ((items.toList.drop (sIx items.size 0 lo)).take (sIx items.size items.size hi-sIx items.size 0 lo)).toArray):=by
    show ((items.toList.drop (sIx items.size 0 lo)).take (sIx items.size items.size hi-sIx items.size 0 lo)).toArray.size≤sizeLine
    rw [List.size_toArray,List.length_take,List.length_drop,Array.length_toList]
    omega
  have hj:sIx items.size items.size hi≤items.size:=sIx_le _ _ (Nat.le_refl _) hi
  obtain ⟨os,hos,hcs,hds⟩:=id hs
  have hTs:s.TypeIs (.ref sl) "slice" := ⟨os,hos,hcs⟩
  unfold getItem
  try with_reducible refine wpAny_holding ?_
  first | refine wpAny_bind (wpAny_pure ?_) | skip
  refine wpAny_bind (wpAny_sequenceKey ht.typeIs (by decide) ?_)
  refine wpAny_bind (wpAny_callSpecial?_slot (name:=Str.ofString "__getitem__") ht.typeIs PyProof.Rows.slot_tuple_getitem
    (wpAny_call_entry PyProof.Rows.slot_tuple_getitem ht.typeIs entry_tuple_getitem ?_ (args_tuple_getitem _ _)))
  show wpAny _ _ (Builtin.Tuple.tupleItemsOf (.ref t) >>= _) _ _ s
  refine wpAny_bind (tupleItemsOf_ ht ?_)
  refine wpAny_bind (wpAny_typeOf hTs ?_)
  rw [if_pos (by decide)]
  refine wpAny_bind (sliceApplied_gen hs pl pu ?_)
  have hno:¬ ((((sIx items.size 0 lo:Nat):Int)==0 && (1:Int)==1 && (sIx items.size items.size hi-sIx items.size 0 lo)==items.size)=true):=by
    intro q
    rw [Bool.and_eq_true,Bool.and_eq_true] at q
    have q1:((sIx items.size 0 lo:Nat):Int)=0:=eq_of_beq q.1.1
    have q2:sIx items.size items.size hi-sIx items.size 0 lo=items.size:=eq_of_beq q.2
    exact hw ⟨by omega,by omega⟩
  show wpAny _ _ (if (((sIx items.size 0 lo:Nat):Int)==0 && (1:Int)==1 && (sIx items.size items.size hi-sIx items.size 0 lo)==items.size)=true then _ else _) _ _ s
  rw [if_neg hno,pick_gen]
  first
    | exact wpAny_bind (m:=Builtin.Tuple.tupleExact _) (wpAny_newObj_type (wpAny_pure ⟨_,rfl,wpAny_pure h⟩) htake)
    | exact wpAny_bind (m:=Builtin.Tuple.tupleExact _) (wpAny_newObj_type (wpAny_bind (wpAny_pure (wpAny_pure ⟨_,rfl,wpAny_pure h⟩))) htake)
    | exact wpAny_bind (wpAny_bind (m:=Builtin.Tuple.tupleExact _) (wpAny_newObj_type (wpAny_pure (wpAny_pure ⟨_,rfl,wpAny_pure h⟩)) htake))
    | exact wpAny_bind (wpAny_bind (m:=Builtin.Tuple.tupleExact _) (wpAny_newObj_type (wpAny_pure ⟨_,rfl,wpAny_pure h⟩) htake))
end
end HT
namespace L2
open PySem PySem.Spec PyProof.Rows
abbrev TO:=St→Hp→(Option Int→Hp→Prop)→Prop
def PO (X : Cx) (e : Option Expr) (t : TO) : Prop :=
  ∀ (pins:List (Addr×Obj)) (s:Shared) (σ:St) (H:Hp) (Q:Option Int→Hp→Prop),Inv X pins σ H s→t σ H Q →
    wpAny (model X.prog X.w) X.A (evalPart e X.env) (fun u s'=>∃ o H',Inv X pins σ H' s'∧IsPart u o∧Q o H') X.xe s
def tNoPart:TO:=fun _ H Q=>Q none H
def tPart (t:TE):TO:=fun σ H Q=>t σ H fun x H1=>∃ i,x=.int i∧Q (some i) H1
section
variable {X:Cx} {e:Expr} {te:TE} {lo hi:Option Expr} {tl th:TO} {pos p2:Pos}
theorem po_none:PO X none tNoPart:=by
  intro pins s σ H Q I h
  rw [evalPart_none]
  exact wpAny_pure ⟨none,H,I,.none,h⟩
theorem po_some (h:PE X e te):PO X (some e) (tPart te):=by
  intro pins s σ H Q I hw
  rw [evalPart_some]
  refine thn (h pins s σ H _ I hw) fun u s1 ⟨x,H1,I1,r1,q1⟩=>?_
  obtain ⟨i,rfl,q⟩:=q1
  obtain ⟨t,rfl⟩:=r1
  exact ⟨some i,H1,I1,.int i t,q⟩
def SlR (X : Cx) (r : V → Option Int → Option Int → Hp → VK → Prop) : Prop :=
  ∀ (pins:List (Addr×Obj)) (s:Shared) (σ:St) (H:Hp) (x:V) (v vl vu:Value) (lo hi:Option Int) (sl:Addr) (Q:VK),Inv X pins σ H s→RelV x v→s.heap.IsSliceOf sl vl vu .none→IsPart vl lo→IsPart vu hi→r x lo hi H Q →
    ∃ T id,typeLookup (.type T) "__getitem__" = pure (some (.builtin id))∧s.TypeIs v T∧wpAny (model X.prog X.w) X.A (getItem v (.ref sl)) (EP X pins σ Q) X.xe s
def tSl (r:V→Option Int→Option Int→Hp→VK→Prop) (te:TE) (tl th:TO):TE:=fun σ H Q=>te σ H fun x H1=>tl σ H1 fun l H2=>th σ H2 fun u H3=>r x l u H3 Q
theorem pe_slice {r:V→Option Int→Option Int→Hp→VK→Prop} (hr:SlR X r) (he:PE X e te) (hl:PO X lo tl) (hu:PO X hi th):PE X (.Subscript e (.Slice lo hi none p2) pos) (tSl r te tl th):=by
  intro pins s σ H Q I h
  refine Subscript_ (thn (he pins s σ H _ I h) fun v s1 ⟨x,H1,I1,r1,q1⟩=>?_)
  refine wpAny_Slice (thn (hl pins s1 σ H1 _ I1 q1) fun vl s2 ⟨l,H2,I2,pl,q2⟩=>thn (hu pins s2 σ H2 _ I2 q2) fun vu s3 ⟨u,H3,I3,pu,q3⟩=>?_)
  rw [evalPart_none]
  refine wpAny_pure ?_
  have I4:Inv X pins σ H3 { s3 with heap:=s3.heap.push { cls:=.type "slice",data:=.fields #[vl,vu,.none] } }:=I3.kept (t':=s3.toks) fun b ob q=>Heap.get?_push_of_some _ q
  obtain ⟨T,id,hT,ht,hg⟩:=hr pins { s3 with heap:=s3.heap.push { cls:=.type "slice",data:=.fields #[vl,vu,.none] } } σ H3 x v vl vu l u s3.heap.objs.size Q I4 r1 (Heap.IsSliceOf.new ..) pl pu q3
  show wpAny (model X.prog X.w) X.A (subscriptTail e (.Slice lo hi none p2) v (.ref s3.heap.objs.size)) (EP X pins σ Q) X.xe { s3 with heap:=s3.heap.push { cls:=.type "slice",data:=.fields #[vl,vu,.none] } }
  exact tail_any (ops:=[.ref s3.heap.objs.size,v]) ht hT hg (by with_unfolding_all rfl)
def cutV (xs:List V) (lo hi:Option Int):List V:=(xs.drop (HT.sIx xs.length 0 lo)).take (HT.sIx xs.length xs.length hi-HT.sIx xs.length 0 lo)
theorem cutV_length (xs:List V) (lo hi:Option Int):(cutV xs lo hi).length≤xs.length:=by
  unfold cutV
  rw [List.length_take,List.length_drop]
  omega
def rSlT (K:PySem.W.Frag):V→Option Int→Option Int→Hp→VK→Prop:=fun x lo hi H Q=>∃ a xs,x=.ref a∧SqT K H a xs ∧
  ¬ (HT.sIx xs.length 0 lo=0∧HT.sIx xs.length xs.length hi=xs.length)∧∀ p,H p=none→Q (.ref p) (upd H p (.tup (cutV xs lo hi)))
theorem sl_tup:SlR X (rSlT X.K):=by
  intro pins s σ H x v vl vu lo hi sl Q I rx hs pl pu h
  obtain ⟨a,xs,rfl,hx,hw,q⟩:=h
  cases rx
  obtain ⟨its,r,ht,hz⟩:=I.tuple hx
  have hlen:its.toArray.size=xs.length:=by rw [List.size_toArray]; exact r.length.symm
  refine ⟨"tuple",_,PyProof.Rows.slot_tuple_getitem.lookup,ht.typeIs,?_⟩
  refine HT.getItem_tuple_cut ht hs pl pu (by rw [hlen]; exact hw) ?_ (by rw [hlen]; exact hz)
  rw [hlen]
  refine ⟨.ref s.heap.objs.size,_,I.laid (t':=s.toks) (o:=.tup (cutV xs lo hi)) (fun b ob q=>Heap.get?_push_of_some _ q) (Nat.le_refl _) ?_,rfl,q _ (I.hok.fresh (Nat.le_refl _))⟩
  exact ⟨Nat.le_trans (cutV_length xs lo hi) hz,_,(r.drop (HT.sIx xs.length 0 lo)).take (HT.sIx xs.length xs.length hi-HT.sIx xs.length 0 lo),IsTup.new _ _⟩
def rCatT (K:PySem.W.Frag):R2:=fun x y H Q=>∃ a b xs ys,x=.ref a∧y=.ref b∧SqT K H a xs∧SqT K H b ys∧xs≠[]∧xs.length+ys.length≤sizeLine ∧
  (ys=[]→Q (.ref a) H)∧(ys≠[]→∀ p,H p=none→Q (.ref p) (upd H p (.tup (xs++ys))))
theorem Vals.nil_iff {xs:List V} {us:List Value} (r:Vals xs us):us=[]↔xs=[]:=by
  cases r with
  | nil=>simp
  | cons _ _=>simp
theorem op_catT:OpR X (binaryOp .Add) (rCatT X.K):=by
  intro pins s σ H x y v u Q I rx ry h
  obtain ⟨a,b,xs,ys,rfl,rfl,ha,hb,hx,hz,q1,q2⟩:=h
  cases rx
  cases ry
  obtain ⟨its,r1,p1,_⟩:=I.tuple ha
  obtain ⟨its2,r2,p2,_⟩:=I.tuple hb
  refine HT.cat_tup p1 p2 (fun z=>hx (r1.nil_iff.mp z)) (fun z=>⟨.ref a,H,I,rfl,q1 (r2.nil_iff.mp z)⟩) (fun z=>?_) (by rw [← r1.length,← r2.length]; exact hz)
  refine ⟨.ref s.heap.objs.size,_,I.laid (t':=s.toks) (o:=.tup (xs++ys)) (fun b ob q=>Heap.get?_push_of_some _ q) (Nat.le_refl _) ?_,rfl,q2 (fun w=>z (r2.nil_iff.mpr w)) _ (I.hok.fresh (Nat.le_refl _))⟩
  exact ⟨by rw [List.length_append]; exact hz,_,r1.append r2,IsTup.new _ _⟩
end
end L2
namespace L2
open PySem PySem.Spec PyProof.Rows
def ixN (n:Nat) (i:Int):Option Nat:=if 0≤i then (if i<n then some i.toNat else none) else if -(n:Int)≤i then some (i+n).toNat else none
def atI {α:Type} (xs:List α) (i:Int):Option α:=(ixN xs.length i).bind fun j=>xs[j]?
theorem ixN_seq {n:Nat} {i:Int} {j:Nat} (h:ixN n i=some j):seqIndex? i n=some j∧j<n∧-(n:Int)≤i∧i<n:=by
  unfold ixN at h
  by_cases h0:0≤i
  · rw [if_pos h0] at h
    by_cases h1:i<n
    · rw [if_pos h1] at h
      have e:i.toNat=j:=Option.some.inj h
      exact ⟨by rw [seqIndex_of h0 h1,e],by omega,by omega,h1⟩
    · rw [if_neg h1] at h; cases h
  · rw [if_neg h0] at h
    by_cases h1:-(n:Int)≤i
    · rw [if_pos h1] at h
      have e:(i+n).toNat=j:=Option.some.inj h
      exact ⟨by rw [seqIndex_neg (by omega) h1,e],by omega,h1,by omega⟩
    · rw [if_neg h1] at h; cases h
theorem atI_get {α:Type} {xs:List α} {i:Int} {v:α} (h:atI xs i=some v):∃ j,seqIndex? i xs.length=some j∧xs[j]?=some v∧j<xs.length∧-(xs.length:Int)≤i∧i<xs.length:=by
  unfold atI at h
  cases e:ixN xs.length i with
  | none=>rw [e] at h; cases h
  | some j =>
    rw [e] at h
    obtain ⟨h1,h2,h3,h4⟩:=ixN_seq e
    exact ⟨j,h1,h,h2,h3,h4⟩
theorem atI_nat {α:Type} {xs:List α} {j:Nat} {v:α} (h:xs[j]?=some v):atI xs (j:Int)=some v:=by
  have hj:j<xs.length:=(List.getElem?_eq_some_iff.mp h).1
  have e:ixN xs.length (j:Int)=some j:=by
    unfold ixN
    rw [if_pos (by omega),if_pos (by omega)]; simp
  unfold atI; rw [e]; exact h
theorem atI_last {α:Type} (xs:List α) (v:α):atI (xs++[v]) (-1)=some v:=by
  have hl:(xs++[v]).length=xs.length+1:=by simp
  have e:ixN (xs++[v]).length (-1)=some xs.length:=by
    unfold ixN
    rw [hl,if_neg (by decide),if_pos (by omega)]
    congr 1
    omega
  unfold atI
  rw [e]
  show (xs++[v])[xs.length]?=some v
  simp
def PlainIx (b:Expr):Prop:=∀ o i,subscripted b false o i=operate [o,i] (getItem o i)
def IxR (X : Cx) (r : R2) : Prop :=
  ∀ (value slice:Expr) (pins:List (Addr×Obj)) (s:Shared) (σ:St) (H:Hp) (x y:V) (v u:Value) (Q:VK),Inv X pins σ H s→RelV x v→RelV y u→r x y H Q →
    subscripted slice false v u=operate [v,u] (getItem v u)→wpAny (model X.prog X.w) X.A (subscriptTail value slice v u) (EP X pins σ Q) X.xe s
def MtR (X : Cx) (id : String) (r : V → List V → Hp → VK → Prop) : Prop :=
  ∀ (pins:List (Addr×Obj)) (s:Shared) (σ:St) (H:Hp) (x:V) (xs:List V) (v:Value) (us:List Value) (Q:VK),Inv X pins σ H s→RelV x v→Vals xs us→r x xs H Q →
    wpAny (model X.prog X.w) X.A (call (.builtin id) (v::us)) (EP X pins σ Q) X.xe s
section
variable {X:Cx} {a b:Expr} {ta tb:TE} {pos:Pos}
theorem pe_ix {r:R2} (hr:IxR X r) (ha:PE X a ta) (hb:PE X b tb) (hs:PlainIx b):PE X (.Subscript a b pos) (tOp r ta tb):=by
  intro pins s σ H Q I h
  exact Subscript_ (binT ha hb I h fun v u s2 x y H2 I2 rx ry q=>hr a b pins s2 σ H2 x y v u Q I2 rx ry q (hs _ _))
def rIxL (K:PySem.W.Frag):R2:=fun x y H Q=>∃ p xs i v,x=.ref p∧y=.int i∧SqL K H p xs∧atI xs i=some v∧Q v H
def rIxT (K:PySem.W.Frag):R2:=fun x y H Q=>∃ p xs i v,x=.ref p∧y=.int i∧SqT K H p xs∧atI xs i=some v∧Q v H
def rIxS:R2:=fun x y H Q=>∃ z i c,x=.str z∧y=.int i∧z.length≤sizeLine∧atI z.cps.toList i=some c∧Q (.str ⟨#[c]⟩) H
theorem ix_list:IxR X (rIxL X.K):=by
  intro value slice pins s σ H x y v u Q I rx ry h hs
  obtain ⟨p,xs,i,z,rfl,rfl,hq,he,q⟩:=h
  cases rx
  obtain ⟨t,rfl⟩:=ry
  obtain ⟨its,r,pl,hz⟩:=I.list hq
  obtain ⟨j,h1,h2,h3,h4,h5⟩:=atI_get he
  obtain ⟨w,ew,rw'⟩:=r.get h2
  have hl:=r.length
  have hn:=line63
  have fin:EP X pins σ Q w s:=⟨z,H,I,rw',q⟩
  by_cases h0:0≤i
  · have hj:i.toNat=j:=by
      rw [seqIndex_of h0 h5] at h1
      exact Option.some.inj h1
    exact item_listR pl.isList h0 (by omega) (by rw [hj]; simpa using ew) fin hs
  · have hj:(i+(its.toArray.size:Int)).toNat=j:=by
      rw [seqIndex_neg (by omega) h4] at h1
      rw [List.size_toArray,← hl]
      exact Option.some.inj h1
    exact subscriptTail_builtinR (x:=w) pl.isList.typeIs slot_list_getitem.lookup
      (wpAny_getItem_list_neg (Q:=fun r s'=>r=w∧EP X pins σ Q r s') pl.isList (by omega) (by rw [List.size_toArray] <;> omega) (by omega) (by rw [hj]; simpa using ew) ⟨rfl,fin⟩) hs
theorem ix_tup:IxR X (rIxT X.K):=by
  intro value slice pins s σ H x y v u Q I rx ry h hs
  obtain ⟨p,xs,i,z,rfl,rfl,hq,he,q⟩:=h
  cases rx
  obtain ⟨t,rfl⟩:=ry
  obtain ⟨its,r,pl,hz⟩:=I.tuple hq
  obtain ⟨j,h1,h2,h3,h4,h5⟩:=atI_get he
  obtain ⟨w,ew,rw'⟩:=r.get h2
  have hl:=r.length
  have hn:=line63
  have fin:EP X pins σ Q w s:=⟨z,H,I,rw',q⟩
  exact subscriptTail_builtinR (x:=w) pl.typeIs slot_tuple_getitem.lookup
    (getItem_tuple (j:=j) (Q:=fun r s'=>r=w∧EP X pins σ Q r s') pl (by omega) (by omega) (by rw [List.size_toArray,← hl]; exact h1) (by simpa using ew) ⟨rfl,fin⟩) hs
theorem ix_str:IxR X rIxS:=by
  intro value slice pins s σ H x y v u Q I rx ry h hs
  obtain ⟨z,i,c,rfl,rfl,hz,he,q⟩:=h
  obtain ⟨t,rfl⟩:=rx
  obtain ⟨t',rfl⟩:=ry
  obtain ⟨j,h1,h2,h3,h4,h5⟩:=atI_get he
  have hl:z.cps.toList.length=z.length:=by simp [Str.length]
  rw [hl] at h1 h4 h5
  have hn:=line63
  exact tail_any (typeIs_str s z t) slot_str_getitem.lookup (getItem_str (c:=c) (by
    have e1:decide (i< -(2 ^ 63:Int))=false:=decide_eq_false (by omega)
    have e2:decide (i≥2 ^ 63)=false:=decide_eq_false (by omega)
    rw [e1,e2,Bool.or_false]) (by rw [h1]; simpa using h2) ⟨.str ⟨#[c]⟩,H,I.tok _,⟨_,rfl⟩,q⟩) hs
theorem slice_bounds (lo hi:Option Int) (n:Nat):(sliceBounds lo hi none n).1=((HT.sIx n 0 lo:Nat):Int)∧(sliceBounds lo hi none n).2.1=((HT.sIx n n hi:Nat):Int)∧(sliceBounds lo hi none n).2.2=1:=by
  refine ⟨?_,?_,rfl⟩
  · cases lo with
    | none=>simp [sliceBounds,HT.sIx]
    | some i =>
      simp only [sliceBounds,HT.sIx,Option.getD_none,show (1:Int)>0 by decide,if_true]
      by_cases h:i<0
      · simp only [h,if_true] <;> omega
      · simp only [h,if_false] <;> omega
  · cases hi with
    | none=>simp [sliceBounds,HT.sIx]
    | some i =>
      simp only [sliceBounds,HT.sIx,Option.getD_none,show (1:Int)>0 by decide,if_true]
      by_cases h:i<0
      · simp only [h,if_true] <;> omega
      · simp only [h,if_false] <;> omega
theorem slicePick_cut (its:List Value) (lo hi:Option Int):slicePick its.toArray lo hi none=((its.drop (HT.sIx its.length 0 lo)).take (HT.sIx its.length its.length hi-HT.sIx its.length 0 lo)).toArray:=by
  obtain ⟨h1,h2,h3⟩:=slice_bounds lo hi its.toArray.size
  unfold slicePick
  rw [h1,h2,h3]
  simp only [sliceRange_one,pick_run,List.size_toArray] <;> rfl
def rSlL (K:PySem.W.Frag):V→Option Int→Option Int→Hp→VK→Prop:=fun x lo hi H Q=>∃ a xs,x=.ref a∧SqL K H a xs∧∀ p,H p=none→Q (.ref p) (upd H p (.lst (cutV xs lo hi)))
theorem sl_list:SlR X (rSlL X.K):=by
  intro pins s σ H x v vl vu lo hi sl Q I rx hs pl pu h
  obtain ⟨a,xs,rfl,hx,q⟩:=h
  cases rx
  obtain ⟨its,r,ht,hz⟩:=I.list hx
  have hlen:=r.length
  refine ⟨"list",_,slot_list_getitem.lookup,ht.isList.typeIs,?_⟩
  refine wpAny_getItem_list_slice ht.isList hs pl pu .none (by simp) ?_ (by rw [List.size_toArray] <;> omega)
  rw [slicePick_cut,← hlen]
  refine ⟨.ref s.heap.objs.size,_,I.laid (t':=s.toks) (o:=.lst (cutV xs lo hi)) (fun b ob q=>Heap.get?_push_of_some _ q) (Nat.le_refl _) ?_,rfl,q _ (I.hok.fresh (Nat.le_refl _))⟩
  exact ⟨Nat.le_trans (cutV_length xs lo hi) hz,_,0,(r.drop (HT.sIx xs.length 0 lo)).take (HT.sIx xs.length xs.length hi-HT.sIx xs.length 0 lo),Heap.get?_push_size _ rfl⟩
def flatV:V→Bool
  | .non=>true
  | .bl _=>true
  | .int _=>true
  | .str _=>true
  | _=>false
def eqV:V→V→Bool
  | .non,.non=>true
  | .bl a,.bl b=>a==b
  | .bl a,.int b=>(if a then 1 else 0)==b
  | .int a,.bl b=>a==(if b then 1 else 0)
  | .int a,.int b=>a==b
  | .str a,.str b=>a==b
  | _,_=>false
theorem eqAt_V {A:Around} {s:Shared} {y x:V} {u v:Value} (ry:RelV y u) (rx:RelV x v) (fy:flatV y=true) (fx:flatV x=true):SeqAt.EqAt A s u v (eqV y x):=by
  cases y with
  | non =>
    cases ry
    cases x with
    | non=>cases rx; exact SeqAt.EqAt.same _
    | bl b=>cases rx; exact SeqAt.EqAt.none_bool b
    | int b=>obtain ⟨t,rfl⟩:=rx; exact SeqAt.EqAt.none_int b t
    | str b=>obtain ⟨t,rfl⟩:=rx; exact SeqAt.EqAt.none_str b t
    | _=>exact absurd (show false=true from fx) Bool.false_ne_true
  | bl a =>
    cases ry
    cases x with
    | non=>cases rx; exact SeqAt.EqAt.bool_none a
    | bl b=>cases rx; exact SeqAt.EqAt.bool_bool a b
    | int b=>obtain ⟨t,rfl⟩:=rx; exact SeqAt.EqAt.bool_int a b t
    | str b=>obtain ⟨t,rfl⟩:=rx; exact SeqAt.EqAt.bool_str a b t
    | _=>exact absurd (show false=true from fx) Bool.false_ne_true
  | int a =>
    obtain ⟨t',rfl⟩:=ry
    cases x with
    | non=>cases rx; exact SeqAt.EqAt.int_none a t'
    | bl b=>cases rx; exact SeqAt.EqAt.int_bool a t' b
    | int b=>obtain ⟨t,rfl⟩:=rx; exact SeqAt.EqAt.int_int a t' b t
    | str b=>obtain ⟨t,rfl⟩:=rx; exact SeqAt.EqAt.int_str a t' b t
    | _=>exact absurd (show false=true from fx) Bool.false_ne_true
  | str a =>
    obtain ⟨t',rfl⟩:=ry
    cases x with
    | non=>cases rx; exact SeqAt.EqAt.str_none a t'
    | bl b=>cases rx; exact SeqAt.EqAt.str_bool a t' b
    | int b=>obtain ⟨t,rfl⟩:=rx; exact SeqAt.EqAt.str_int a t' b t
    | str b=>obtain ⟨t,rfl⟩:=rx; exact SeqAt.EqAt.str_str a t' b t
    | _=>exact absurd (show false=true from fx) Bool.false_ne_true
  | _=>exact absurd (show false=true from fy) Bool.false_ne_true
def eqU (x:V) (u:Value):Bool:=match u with
  | .none=>eqV .non x
  | .bool b=>eqV (.bl b) x
  | .int i _=>eqV (.int i) x
  | .str z _=>eqV (.str z) x
  | _=>false
theorem eqU_of {x y:V} {u:Value} (r:RelV y u) (f:flatV y=true):eqU x u=eqV y x:=by
  cases y with
  | non=>cases r; rfl
  | bl b=>cases r; rfl
  | int i=>obtain ⟨t,rfl⟩:=r; rfl
  | str z=>obtain ⟨t,rfl⟩:=r; rfl
  | _=>exact absurd (show false=true from f) Bool.false_ne_true
theorem any_eqU {x:V}:∀ {xs:List V} {us:List Value},Vals xs us→xs.all flatV=true→us.any (eqU x)=xs.any fun y=>eqV y x
  | _,_,.nil,_=>rfl
  | y::xs,u::us,.cons r t,f=>by
    rw [List.all_cons,Bool.and_eq_true] at f
    rw [List.any_cons,List.any_cons,eqU_of r f.1,any_eqU t f.2]
theorem mem_eqAt {A:Around} {s:Shared} {x:V} {v:Value} (rx:RelV x v) (fx:flatV x=true):∀ {xs:List V} {us:List Value},Vals xs us→xs.all flatV=true→∀ u∈us,SeqAt.EqAt A s u v (eqU x u)
  | _,_,.nil,_=>fun u hu=>by cases hu
  | y::xs,u::us,.cons r t,f=>fun u' hu=>by
    rw [List.all_cons,Bool.and_eq_true] at f
    rcases List.mem_cons.mp hu with rfl | hu
    · rw [eqU_of r f.1]; exact eqAt_V r rx f.1 fx
    · exact mem_eqAt rx fx t f.2 u' hu
def inV (x:V) (xs:List V):Bool:=xs.any fun y=>eqV y x
def rIn (K:PySem.W.Frag) (neg:Bool):R2:=fun x y H Q=>∃ p xs,y=.ref p∧(SqL K H p xs∨SqT K H p xs)∧flatV x=true∧xs.all flatV=true∧Q (.bl (if neg then !inV x xs else inV x xs)) H
theorem op_in_seq:OpR X (compareOp .In) (rIn X.K false):=by
  intro pins s σ H x y v u Q I rx ry h
  obtain ⟨p,xs,rfl,hq,fx,fs,q⟩:=h
  cases ry
  rcases hq with hq | hq
  · obtain ⟨its,r,pl,hz⟩:=I.list hq
    refine SeqAt.in_listAt (eqU x) pl.isList (fun w hw=>mem_eqAt rx fx r fs w (by simpa using hw)) ⟨.bl _,H,I,rfl,?_⟩
    rw [show its.toArray.any (eqU x)=its.any (eqU x) by simp,any_eqU r fs]
    exact q
  · obtain ⟨its,r,pl,hz⟩:=I.tuple hq
    refine SeqAt.in_tupleAt (eqU x) pl (fun w hw=>mem_eqAt rx fx r fs w (by simpa using hw)) ⟨.bl _,H,I,rfl,?_⟩
    rw [show its.toArray.any (eqU x)=its.any (eqU x) by simp,any_eqU r fs]
    exact q
theorem call_len_seq:CallR X (.builtin "len") (fun xs H Q=>∃ p ys,xs=[.ref p]∧(SqL X.K H p ys∨SqT X.K H p ys)∧Q (.int ys.length) H):=by
  intro pins s σ H xs us Q I r h
  obtain ⟨p,ys,rfl,hq,q⟩:=h
  obtain ⟨u,rfl,rx⟩:=vals1 r
  cases rx
  have hn:=line63
  rcases hq with hq | hq
  · obtain ⟨its,r',pl,hz⟩:=I.list hq
    have hlen:=r'.length
    exact Calls.call_len_list pl.isList (by simp only [List.size_toArray] <;> omega) ⟨.int ys.length,H,I.tok _,⟨s.toks+1,by rw [List.size_toArray,hlen]⟩,q⟩
  · obtain ⟨its,r',pl,hz⟩:=I.tuple hq
    have hlen:=r'.length
    exact len_tuple pl (by simp only [List.size_toArray] <;> omega) ⟨.int ys.length,H,I.tok _,⟨s.toks+1,by rw [List.size_toArray,hlen]⟩,q⟩
theorem call_len_str:CallR X (.builtin "len") (fun xs H Q=>∃ z,xs=[.str z]∧z.length≤sizeLine∧Q (.int z.length) H):=by
  intro pins s σ H xs us Q I r h
  obtain ⟨z,rfl,hz,q⟩:=h
  obtain ⟨u,rfl,t,rfl⟩:=vals1 r
  have hn:=line63
  exact len_str (by omega) ⟨.int z.length,H,I.tok _,⟨_,rfl⟩,q⟩
theorem call_list_of:CallR X (.type "list") (fun xs H Q=>∃ p ys,xs=[.ref p]∧(SqL X.K H p ys∨SqT X.K H p ys)∧∀ l,H l=none→Q (.ref l) (upd H l (.lst ys))):=by
  intro pins s σ H xs us Q I r h
  obtain ⟨p,ys,rfl,hq,q⟩:=h
  obtain ⟨u,rfl,rx⟩:=vals1 r
  cases rx
  have fin:∀ (its:List Value),Vals ys its→ys.length≤sizeLine→∀ (h':Heap) (c':Nat),(∀ b o',s.heap.get? b=some o'→h'.get? b=some o') →
      h'.get? s.heap.objs.size=some { cls:=.type "list",dict:=none,data:=.seq its.toArray c',slots:=#[] }→EP X pins σ Q (.ref s.heap.objs.size) { s with heap:=h' }:=fun its r' hz h' c' kp e =>
    ⟨.ref s.heap.objs.size,_,I.laid (t':=s.toks) kp (Nat.le_refl _) (show ObjOk X.prog X.w _ h' _ (.lst ys) from ⟨hz,its,c',r',e⟩),rfl,q _ (I.hok.fresh (Nat.le_refl _))⟩
  rcases hq with hq | hq
  · obtain ⟨its,r',pl,hz⟩:=I.list hq
    have hlen:=r'.length
    obtain ⟨o,ho,hc,n,hd⟩:=pl.isList
    exact call_list_seq p (.inl rfl) ho hc hd (fun h' c' kp e=>fin its r' hz h' c' kp e) (by simp only [List.size_toArray] <;> omega)
  · obtain ⟨its,r',pl,hz⟩:=I.tuple hq
    have hlen:=r'.length
    obtain ⟨o,ho,hc,n,hd⟩:=pl
    exact call_list_seq p (.inr rfl) ho hc hd (fun h' c' kp e=>fin its r' hz h' c' kp e) (by simp only [List.size_toArray] <;> omega)
theorem call_tuple_of:CallR X (.type "tuple") (fun xs H Q=>∃ p ys,xs=[.ref p]∧((SqL X.K H p ys∧∀ l,H l=none→Q (.ref l) (upd H l (.tup ys)))∨(SqT X.K H p ys∧Q (.ref p) H))):=by
  intro pins s σ H xs us Q I r h
  obtain ⟨p,ys,rfl,h⟩:=h
  obtain ⟨u,rfl,rx⟩:=vals1 r
  cases rx
  rcases h with ⟨hq,q⟩ | ⟨hq,q⟩
  · obtain ⟨its,r',pl,hz⟩:=I.list hq
    have hlen:=r'.length
    refine call_tuple_list pl.isList (fun h' kp=>?_) (by simp only [List.size_toArray] <;> omega)
    have I1:Inv X pins σ H { s with heap:=h' }:=I.kept (t':=s.toks) kp
    have I2:Inv X pins σ (upd H h'.objs.size (.tup ys)) { s with heap:=h'.push { cls:=.type "tuple",data:=.seq its.toArray } } :=
      I1.laid (t':=s.toks) (fun b o e=>Heap.get?_push_of_some _ e) (Nat.le_refl _) (show ObjOk X.prog X.w _ _ _ (.tup ys) from ⟨hz,its,r',IsTup.new _ _⟩)
    exact ⟨.ref h'.objs.size,_,I2,rfl,q _ (I1.hok.fresh (Nat.le_refl _))⟩
  · obtain ⟨its,r',pl,hz⟩:=I.tuple hq
    exact call_tuple_same pl ⟨.ref p,H,I,rfl,q⟩
def tyV (K:PySem.W.Frag) (T:String) (x:V) (H:Hp):Prop:=match x with
  | .str _=>T = "str"
  | .int _=>T = "int"
  | .ref p=>(T = "list" ∧ ∃ xs,SqL K H p xs)∨(T = "tuple" ∧ ∃ o,K.lookup p=some o∧o.cls=.type "tuple" ∧ o.dict=none) ∨
      (T = "dict" ∧ ((∃ kvs,H p=some (.dK kvs))∨∃ kvs,H p=some (.dT kvs)))∨(T = "set" ∧ ∃ S n,H p=some (.set S n))
  | _=>False
theorem tyV_is {pins:List (Addr×Obj)} {σ:St} {H:Hp} {s:Shared} {T:String} {x:V} {v:Value} (I:Inv X pins σ H s) (r:RelV x v) (ty:tyV X.K T x H) :
    s.TypeIs v T∧∀ a,v=.ref a→∃ ob,s.heap.get? a=some ob∧ob.dict=none:=by
  cases x with
  | str z =>
    obtain ⟨t,rfl⟩:=r
    cases (show T = "str" from ty)
    exact ⟨typeIs_str s z t,fun _ e=>nomatch e⟩
  | int i =>
    obtain ⟨t,rfl⟩:=r
    cases (show T = "int" from ty)
    exact ⟨typeIs_int s i t,fun _ e=>nomatch e⟩
  | ref p =>
    cases r
    rcases ty with ⟨rfl,xs,hq⟩ | ⟨rfl,o,hk,hc,hd⟩ | ⟨rfl,hk⟩ | ⟨rfl,S,n,hk⟩
    · obtain ⟨its,_,pl,_⟩:=I.list hq
      refine ⟨pl.isList.typeIs,fun a e=>?_⟩
      cases e
      obtain ⟨o,n,e,c,hd,_⟩:=pl
      exact ⟨o,e,hd⟩
    · refine ⟨⟨o,I.kIn p o hk,hc⟩,fun a e=>?_⟩
      cases e
      exact ⟨o,I.kIn _ o hk,hd⟩
    · have z:∃ o,s.heap.get? p=some o∧o.ExactDict:=by
        rcases hk with ⟨kvs,hk⟩ | ⟨kvs,hk⟩
        · obtain ⟨_,_,_,_,o,_,_,e,ex,_⟩:=I.hok p _ hk
          exact ⟨o,e,ex⟩
        · obtain ⟨_,_,_,_,o,_,_,e,ex,_⟩:=I.hok p _ hk
          exact ⟨o,e,ex⟩
      obtain ⟨o,e,ex⟩:=z
      refine ⟨⟨o,e,ex.1⟩,fun a e2=>?_⟩
      cases e2
      exact ⟨o,e,ex.2.1⟩
    · obtain ⟨o,_,_,_,e,ex,_⟩:=I.hok p _ hk
      refine ⟨⟨o,e,ex.1⟩,fun a e2=>?_⟩
      cases e2
      exact ⟨o,e,ex.2.1⟩
  | _=>exact False.elim ty
def tBM0 (K:PySem.W.Frag) (T:String) (r:V→List V→Hp→VK→Prop) (to:TE):TE:=fun σ H Q=>to σ H fun x H1=>tyV K T x H1∧r x [] H1 Q
def tBM (K:PySem.W.Frag) (T:String) (r:V→List V→Hp→VK→Prop) (to:TE) (t:TA):TE:=fun σ H Q=>to σ H fun x H1=>tyV K T x H1∧t σ H1 fun xs H2=>r x xs H2 Q
variable {o e:Expr} {es:List Expr} {to:TE} {t:TA} {name:Str} {apos cpos:Pos} {T id:String} {r:V→List V→Hp→VK→Prop}
theorem pe_bm0 (pa:PlainAttrs T) (slot:Slot T name id) (hty:typeOf (.builtin id)=pure (.type "method_descriptor")) (hm:MtR X id r) (ho:PE X o to)
    (hbase:attributeBase o name X.env (eval o X.env)=eval o X.env:=by rfl) (hline:(apos.endLine==cpos.line)=true:=by rfl):PE X (.Call (.Attribute o name apos) [] [] cpos) (tBM0 X.K T r to):=by
  intro pins s σ H Q I h
  refine wpAny_Call_method0_late hbase hline (thn (ho pins s σ H _ I h) fun v s1 ⟨x,H1,I1,r1,ty,q1⟩=>?_)
  obtain ⟨h1,h2⟩:=tyV_is I1 r1 ty
  exact ⟨T,id,pa,slot,hty,h1,h2,Calls.callWith_builtin rfl (PySem.evalArgs_none (hm pins s1 σ H1 x [] v [] Q I1 r1 .nil q1))⟩
theorem pe_bm (pa:PlainAttrs T) (slot:Slot T name id) (hty:typeOf (.builtin id)=pure (.type "method_descriptor")) (hm:MtR X id r) (ho:PE X o to) (ha:PA X (e::es) t)
    (hbase:attributeBase o name X.env (eval o X.env)=eval o X.env:=by rfl)
    (hfew:((backTo cpos (starEach (e::es) X.env)).all (fun x=>!x.1) && (backToKw cpos (keywordEach [] X.env)).all (fun x=>x.1.isSome)
      && decide ((e::es).length+([]:List Keyword).length+(if ([]:List Keyword).isEmpty then 0 else 1)<30))=true:=by rfl)
    (hline:(apos.endLine==cpos.line)=true:=by rfl) (hs:starEach (e::es) X.env=(false,eval e X.env)::starEach es X.env:=by rfl) (hplain:(backTo cpos (starEach es X.env)).any (·.1)=false:=by rfl) :
    PE X (.Call (.Attribute o name apos) (e::es) [] cpos) (tBM X.K T r to t):=by
  intro pins s σ H Q I h
  refine wpAny_Call_method_late hbase hfew hline rfl (thn (ho pins s σ H _ I h) fun v s1 ⟨x,H1,I1,r1,ty,q1⟩=>?_)
  obtain ⟨h1,h2⟩:=tyV_is I1 r1 ty
  refine ⟨T,id,pa,slot,hty,h1,h2,?_⟩
  have hA:=ha cpos pins s1 σ H1 _ I1 q1
  rw [hs] at hA ⊢
  refine Calls.callWith_builtin (by show (false || (backTo cpos (starEach es X.env)).any (·.1))=false; rw [hplain] <;> rfl) (Calls.evalArgs_plain ?_)
  exact thn hA fun us s2 ⟨vs,H2,I2,r2,q2⟩=>hm pins s2 σ H2 x vs v us Q I2 r1 r2 q2
end
end L2
namespace L2
open PySem PySem.Spec PyProof.Rows
def MtM (X : Cx) (id : String) (r : V → List V → Hp → VK → Prop) : Prop :=
  ∀ (pins:List (Addr×Obj)) (s:Shared) (σ:St) (H:Hp) (x:V) (xs:List V) (v:Value) (us:List Value) (Q:VK),Inv X pins σ H s→RelV x v→Vals xs us→r x xs H Q →
    wpAny (model X.prog X.w) X.A (call (.builtin id) (v::us)) (EP X pins σ Q) X.xe s
theorem Vals.one {x:V} {us:List Value} (h:Vals [x] us):∃ u,us=[u]∧RelV x u:=by
  cases h with
  | cons r e =>
    cases e
    exact ⟨_,rfl,r⟩
theorem Vals.two {x y:V} {us:List Value} (h:Vals [x,y] us):∃ u v,us=[u,v]∧RelV x u∧RelV y v:=by
  cases h with
  | cons r t =>
    cases t with
    | cons q e =>
      cases e
      exact ⟨_,_,rfl,r,q⟩
theorem Vals.zero:∀ {us:List Value},Vals [] us→us=[]
  | _,.nil=>rfl
theorem Vals.dropLast {xs:List V} {us:List Value} (h:Vals xs us):Vals xs.dropLast us.dropLast:=by
  induction h with
  | nil=>exact .nil
  | cons r t ih =>
    cases t with
    | nil=>exact .nil
    | cons q t'=>exact .cons r ih
theorem Vals.rep {xs:List V} {us:List Value} (h:Vals xs us):∀ k:Nat,Vals (List.replicate k xs).flatten (List.replicate k us).flatten
  | 0=>.nil
  | k+1=>by
    rw [List.replicate_succ,List.replicate_succ,List.flatten_cons,List.flatten_cons]
    exact Vals.append h (Vals.rep h k)
theorem erase_last {α : Type} (l : List α) : l.eraseIdx (l.length - 1) = l.dropLast := by
  induction l with
  | nil=>rfl
  | cons a r ih =>
    cases r with
    | nil=>rfl
    | cons b r =>
      have e:(a::b::r).length-1=((b::r).length-1)+1:=by
        have h1:(a::b::r).length=r.length+2:=rfl
        have h2:(b::r).length=r.length+1:=rfl
        omega
      rw [e,List.eraseIdx_cons_succ,ih]
      all_goals rfl
theorem foldl_rep (its:List Value):∀ (k:Nat) (acc:List Value),
    List.foldl (fun x1 x2=>x1++x2) acc.toArray (List.replicate k its.toArray)=(acc++(List.replicate k its).flatten).toArray
  | 0,acc=>by simp
  | k + 1, acc => by
    have e:acc.toArray++its.toArray=(acc++its).toArray:=by simp
    have e2:(acc++its)++(List.replicate k its).flatten=acc++(List.replicate (k+1) its).flatten:=by
      rw [List.replicate_succ,List.flatten_cons,List.append_assoc]
    rw [← e2,← foldl_rep its k (acc++its),← e,List.replicate_succ,List.foldl_cons]
section
variable {X:Cx} {pins:List (Addr×Obj)} {σ:St} {H:Hp} {s:Shared} {l b:Addr} {xs ys zs:List V}
theorem Inv.lset {its its':List Value} {n:Nat} {f:Array Value→Array Value} {t':Nat} (I:Inv X pins σ H s) (hH:H l=some (.lst xs))
    (e:s.heap.get? l=some { cls:=.type "list",data:=.seq its.toArray n }) (hf:f its.toArray=its'.toArray) (hv:Vals ys its') (hz:ys.length≤sizeLine) :
    Inv X pins σ (upd H l (.lst ys)) { s with heap:=s.heap.update l (Obj.mapSeq f),toks:=t' }:=by
  have q:=PySem.IsL.update e f
  rw [hf] at q
  refine I.write (x:=l) (e:=l) (by rw [hH]; exact trivial) (.inl rfl) (fun b' u hb hu=>(Heap.get?_update_other s.heap (Obj.mapSeq f) (Ne.symm hb)).trans hu) ⟨_,q⟩ ?_
  exact ⟨hz,its',_,hv,q⟩
theorem Inv.lnew {its:List Value} {t':Nat} (I:Inv X pins σ H s) (hv:Vals ys its) (hz:ys.length≤sizeLine) :
    Inv X pins σ (upd H s.heap.objs.size (.lst ys)) { s with heap:=s.heap.push { cls:=.type "list",data:=.seq its.toArray },toks:=t' } :=
  I.laid (fun _ _ q=>Heap.get?_push_of_some _ q) (Nat.le_refl _) ⟨hz,its,0,hv,Heap.get?_push_size _ rfl⟩
theorem Inv.fresh (I:Inv X pins σ H s):H s.heap.objs.size=none:=I.hok.fresh (Nat.le_refl _)
theorem Inv.lstM (I:Inv X pins σ H s) (hH:H l=some (.lst xs)):xs.length≤sizeLine∧∃ (its:List Value) (n:Nat),Vals xs its∧xs.length=its.length∧s.heap.get? l=some { cls:=.type "list",data:=.seq its.toArray n }:=by
  obtain ⟨z,its,n,r,e⟩:=I.hok l _ hH
  exact ⟨z,its,n,r,r.length,e⟩
theorem notLongL {n:Nat} (h:n≤sizeLine):Builtin.List.listTooLong n=false:=by
  unfold Builtin.List.listTooLong
  exact decide_eq_false (by omega)
end
section
variable {X:Cx}
def rAppend:V→List V→Hp→VK→Prop:=fun x vs H Q=>∃ l xs y,x=.ref l∧vs=[y]∧H l=some (.lst xs)∧xs.length<sizeLine∧Q .non (upd H l (.lst (xs++[y])))
theorem mt_append:MtM X "list.append" rAppend:=by
  intro pins s σ H x vs v us Q I rx rv h
  obtain ⟨l,xs,y,rfl,rfl,hH,hz,q⟩:=h
  cases rx
  obtain ⟨u,rfl,ru⟩:=rv.one
  obtain ⟨z,its,n,r,hl,e⟩:=I.lstM hH
  refine call_meets F.slot_list_append ⟨_,e,rfl⟩ F.entry_list_append (F.args_list_append_2 _ _) (PySem.list_append l its.toArray n u (by rw [List.size_toArray]; omega)) ⟨e,?_⟩
  refine ⟨.non,_,I.lset (its':=its++[u]) hH e (by simp) (r.append (.cons ru .nil)) ?_,rfl,q⟩
  rw [List.length_append,List.length_singleton]
  omega
def rExtend:V→List V→Hp→VK→Prop:=fun x vs H Q=>∃ l b xs zs,x=.ref l∧vs=[.ref b]∧H l=some (.lst xs)∧H b=some (.lst zs)∧xs.length+zs.length≤sizeLine∧Q .non (upd H l (.lst (xs++zs)))
theorem mt_extend:MtM X "list.extend" rExtend:=by
  intro pins s σ H x vs v us Q I rx rv h
  obtain ⟨l,b,xs,zs,rfl,rfl,hH,hB,hz,q⟩:=h
  cases rx
  obtain ⟨u,rfl,ru⟩:=rv.one
  cases ru
  obtain ⟨z,its,n,r,hl,e⟩:=I.lstM hH
  obtain ⟨z2,its2,n2,r2,hl2,e2⟩:=I.lstM hB
  have hsz:its.toArray.size+its2.toArray.size≤sizeLine:=by rw [List.size_toArray,List.size_toArray]; omega
  have hlong:¬ (!its.toArray.isEmpty && Builtin.List.listTooLong (its.toArray.size+its2.toArray.size))=true:=by
    rw [notLongL hsz,Bool.and_false]
    exact Bool.false_ne_true
  refine call_meets F.slot_list_extend ⟨_,e,rfl⟩ F.entry_list_extend (F.args_list_extend_2 _ _)
    (AutoSeq1.list_extend_list_list_0 l its.toArray n b its2.toArray n2 hlong (by rw [List.size_toArray]; omega) (by omega)) ⟨e,e2,?_⟩
  refine ⟨.non,_,I.lset (its':=its++its2) hH e (by simp) (r.append r2) ?_,rfl,q⟩
  rw [List.length_append]
  omega
def rPop:V→List V→Hp→VK→Prop:=fun x vs H Q=>∃ l xs y,x=.ref l∧vs=[]∧H l=some (.lst xs)∧xs[xs.length-1]?=some y∧Q y (upd H l (.lst xs.dropLast))
theorem mt_pop:MtM X "list.pop" rPop:=by
  intro pins s σ H x vs v us Q I rx rv h
  obtain ⟨l,xs,y,rfl,rfl,hH,hy,q⟩:=h
  cases rx
  have hus:=rv.zero
  subst hus
  obtain ⟨z,its,n,r,hl,e⟩:=I.lstM hH
  obtain ⟨u,hu,ru⟩:=r.get hy
  have hy':its.toArray[its.toArray.size-1]?=some u:=by
    show its.toArray[its.length-1]?=some u
    rw [← Array.getElem?_toList,← hl]
    exact hu
  refine call_meets F.slot_list_pop ⟨_,e,rfl⟩ F.entry_list_pop (F.args_list_pop_1 _) (MeetsSeq.list_pop_last l its.toArray n u hy' (by rw [List.size_toArray]; omega)) ⟨e,?_⟩
  refine ⟨y,_,I.lset (its':=its.dropLast) hH e ?_ r.dropLast ?_,ru,q⟩
  · show its.toArray.eraseIdxIfInBounds (its.toArray.size-1)=its.dropLast.toArray
    rw [List.size_toArray,List.eraseIdxIfInBounds_toArray,erase_last]
  · rw [List.length_dropLast]
    omega
theorem len_rep {α:Type} (xs:List α) (k:Nat):(List.replicate k xs).flatten.length=k*xs.length:=by
  induction k with
  | zero=>simp
  | succ k ih=>rw [List.replicate_succ,List.flatten_cons,List.length_append,ih,Nat.succ_mul,Nat.add_comm]
end
section
variable {prog:Program} {w:World} {A:Around} {E:Value→Shared→Prop} {s:Shared}
end
section
variable {X:Cx}
end
end L2
namespace L2
open PySem PySem.Spec PyProof.Rows
section
variable {κ:Type} [DecidableEq κ]
def valV (kvs:List (κ×V)) (k:κ):Option V:=(kvs.find? fun kv=>decide (kv.1=k)).map (·.2)
theorem valV_pos {p:κ×V} {r:List (κ×V)} {k:κ} (e:p.1=k):valV (p::r) k=some p.2:=by simp [valV,List.find?_cons,e]
theorem valV_neg {p:κ×V} {r:List (κ×V)} {k:κ} (e:¬ p.1=k):valV (p::r) k=valV r k:=by simp [valV,List.find?_cons,e]
theorem valV_any (k:κ):∀ kvs:List (κ×V),(kvs.any fun kv=>decide (kv.1=k))=(valV kvs k).isSome
  | []=>rfl
  | p::r=>by
    rw [List.any_cons]
    by_cases e:p.1=k
    · simp only [valV_pos e,decide_eq_true e,Bool.true_or,Option.isSome_some]
    · rw [valV_neg e,decide_eq_false e,Bool.false_or]; exact valV_any k r
end
section
variable {P:Program} {w:World} {H:Hp} {h:Heap} {a:Addr}
end
section
variable {X:Cx} {pins:List (Addr×Obj)} {σ:St} {H:Hp} {s:Shared} {a:Addr} {y v:V} {u r:Value} {o:Option V} {A:Around} {E:Value→Shared→Prop}
end
section
variable {X:Cx} {pins:List (Addr×Obj)} {σ:St} {H:Hp} {s:Shared} {a:Addr} {kvs:List (Key×V)} {k:Key} {u:Value} {A:Around} {E:Value→Shared→Prop}
end
def NoSl (i:Expr):Prop:=∀ ov iv,subscripted i false ov iv=operate [ov,iv] (getItem ov iv)
theorem subD_of {prog:Program} {w:World} {A:Around} {E:Value→Shared→Prop} {s:Shared} {env:Env} {value slice:Expr} {pos:Pos} {T id:String} {Q:Value→Shared→Prop}
    (hl:typeLookup (.type T) "__getitem__" = pure (some (.builtin id))) (hs:NoSl slice)
    (h:wpAny (model prog w) A (eval value env) (fun o s₁=>wpAny (model prog w) A (eval slice env) (fun i s₂=>s₂.TypeIs o T∧wpAny (model prog w) A (getItem o i) Q E s₂) E s₁) E s) :
    wpAny (model prog w) A (eval (.Subscript value slice pos) env) Q E s:=by
  refine Subscript_ (wpAny_mono h (fun o s₁ h₁=>wpAny_mono h₁ (fun i s₂ h₂=>?_) fun _ _ x=>x) fun _ _ x=>x)
  obtain ⟨hT,h₂⟩:=h₂
  unfold subscriptTail
  refine wpAny_bind ?_
  rw [getitemInPython_of_ne hT.not_modules]
  refine wpAny_bind (wpAny_specialOf hT hl ?_)
  have fin:wpAny (model prog w) A (subscripted slice false o i) (fun r s₃=>wpAny (model prog w) A (letTemporaryGo value o r >>= fun _=>pure r) Q E s₃) E s₂:=by
    rw [hs o i]
    exact wpAny_operating (wpAny_mono h₂ (fun r s₃ h₃=>wpAny_bind (wpAny_letTemporaryGo (wpAny_pure h₃))) fun _ _ x=>x)
  first
    | exact wpAny_pure (wpAny_bind fin)
    | exact wpAny_bind (wpAny_pure (wpAny_bind fin))
    | exact wpAny_bind fin
section
variable {X:Cx} {o i e value:Expr} {pos pos' tpos:Pos} {td ty tv:TE}
end
section
variable {X:Cx} {pos:Pos}
end
def tPairs:List (TE×TE)→St→Hp→(List (V×V)→Hp→Prop)→Prop
  | [],_,H,Q=>Q [] H
  | (tk,tv)::r,σ,H,Q=>tk σ H fun x H1=>tv σ H1 fun y H2=>tPairs r σ H2 fun ps H3=>Q ((x,y)::ps) H3
abbrev VV:List (V×V)→List (Value×Value)→Prop:=Paired fun p q=>RelV p.1 q.1∧RelV p.2 q.2
def PPs (X : Cx) (pos : Pos) (keys : List (Option Expr)) (values : List Expr) (trs : List (TE × TE)) : Prop :=
  ∀ (pins:List (Addr×Obj)) (s:Shared) (σ:St) (H:Hp) (Q:List (V×V)→Hp→Prop),Inv X pins σ H s→tPairs trs σ H Q →
    wpAny (model X.prog X.w) X.A (evalPairs (pairTrees keys values X.env pos)) (fun vs s'=>∃ ps H',Inv X pins σ H' s'∧VV ps vs∧Q ps H') X.xe s
structure M1 (X:Cx) (o:Expr) (m:Str) (apos:Pos) (e:Expr) (cpos:Pos):Prop where
  base:attributeBase o m X.env (eval o X.env)=eval o X.env
  few:((backTo cpos (starEach [e] X.env)).all (fun x=>!x.1) && (backToKw cpos (keywordEach [] X.env)).all (fun x=>x.1.isSome)
    && decide (([e]:List Expr).length+([]:List Keyword).length+(if ([]:List Keyword).isEmpty then 0 else 1)<30))=true
  line:(apos.endLine==cpos.line)=true
  trees:backTo cpos (starEach [e] X.env)=[(false,eval e X.env)]
structure M2 (X:Cx) (o:Expr) (m:Str) (apos:Pos) (e f:Expr) (cpos:Pos):Prop where
  base:attributeBase o m X.env (eval o X.env)=eval o X.env
  few:((backTo cpos (starEach [e,f] X.env)).all (fun x=>!x.1) && (backToKw cpos (keywordEach [] X.env)).all (fun x=>x.1.isSome)
    && decide (([e,f]:List Expr).length+([]:List Keyword).length+(if ([]:List Keyword).isEmpty then 0 else 1)<30))=true
  line:(apos.endLine==cpos.line)=true
  trees:backTo cpos (starEach [e,f] X.env)=[(false,eval e X.env),(false,eval f X.env)]
section
variable {X:Cx} {pins:List (Addr×Obj)} {σ:St} {H:Hp} {s:Shared} {a:Addr} {y d:V} {u r:Value} {o:Option V} {A:Around} {E:Value→Shared→Prop}
end
section
variable {X:Cx} {o e f:Expr} {apos cpos:Pos} {td ty tx:TE}
end
section
variable {X:Cx} {pins:List (Addr×Obj)} {σ:St} {H:Hp} {s:Shared} {a:Addr} {kvs:List (Key×V)} {A:Around} {E:Value→Shared→Prop}
end
section
variable {X:Cx} {pins:List (Addr×Obj)} {σ:St} {H:Hp} {s:Shared} {a:Addr} {y:V} {u:Value} {A:Around} {E:Value→Shared→Prop}
end
end L2
namespace Att
open PySem PySem.W PySem.Calls PyProof.Rows
theorem ints_of_wellAll {P:Params} {h:Heap}:∀ (ns:List Int) (vs:List Value),WellAll P h vs (ns.map WData.int)→IntsAre vs ns:=by
  intro ns
  induction ns with
  | nil =>
    intro vs w
    rw [List.map_nil] at w
    cases w
    exact .nil
  | cons n ns ih =>
    intro vs w
    rw [List.map_cons] at w
    cases w with
    | cons a b =>
      cases a
      exact .cons _ _ (ih _ b)
theorem script_of {l:OpenLaw} {n:Nat} (hn:l.most=some n) {P:Params} {h:Heap} {args:List WData} {vals:List Value}
    (hpre:l.row.toRowW.claim.pre args=true) (hwl:WellAll P h vals args) :
    ∃ a vs ns,vals=[Value.ref a]∧args=[WData.list (ns.map WData.int)]∧h.get? a=some { cls:=.type "list",data:=.seq vs.toArray }∧IntsAre vs ns∧ns.length≤n:=by
  have hsh:WShape.hasAll [] args [.list .int]=true:=(pre_splitW hpre).1
  have hc:l.pre.holds [] { args:=args }=true:=(pre_splitW hpre).2
  obtain ⟨d,r,rfl,h1,h2⟩:=hasAllW_cons hsh
  obtain rfl:=hasAllW_nil h2
  obtain ⟨xs,rfl,h3⟩:=hasW_list h1
  obtain ⟨ns,rfl⟩:=items_int h3
  have hlen:ns.length≤n:=by
    unfold OpenLaw.pre at hc
    have h4:(WTm.not (.lt (.lit (.int (n:Int))) (.len (.arg 0)))).holds [] { args:=[.list (ns.map .int)] }=true:=by
      have h4:=(holds_andW hc).1
      rw [hn] at h4
      exact h4
    have h5:=condW_of h4 (w_not (w_lt w_lit (w_len_list (w_arg rfl))))
    rw [List.length_map] at h5
    refine Nat.le_of_not_lt fun q=>?_
    have q':(n:Int)<((ns.length:Nat):Int):=by omega
    first
      | (rw [decide_eq_true q'] at h5; exact absurd h5 (by decide))
      | (simp at h5; omega)
  cases hwl with
  | cons w1 w2 =>
    cases w2
    cases w1 with
    | list ho hall=>exact ⟨_,_,ns,rfl,rfl,ho,ints_of_wellAll ns _ hall,hlen⟩
theorem post_true (l:OpenLaw) (args:List WData):l.row.toRowW.claim.post args (.bool true) args=true :=
  postW_of (r:=l.row.toRowW) (X:=(true==true))
    (show WShape.has [] (.bool true) .bool=true by first | rfl | decide | simp [WShape.has,WShape.arms,WShape.armsAll])
    (show (WTm.eq .res (.lit (.bool true))).value [] { args:=args,res:=some (.bool true),after:=args }=some (.bool (true==true)) from w_eq_bool (w_res rfl) w_lit) rfl
theorem attach_call {l:OpenLaw} {n:Nat} {q:Program} {loose:List Str} {XP:(Str→Option Value)→Heap→Prop} {YP:World→Heap→Prop} {d:DefRec}
    (hn:l.most=some n) (hdf:d.params.defaults=[])
    (call:∀ (w:World) (s₀ s₁:Shared) (mg mb:Str→Option Value) (fa:Addr) (o:Obj) (pm cd doc:Value) (a:Addr) (vs:List Value) (ns:List Int),
      Ground q loose [] XP w s₀ mg mb s₁.heap→YP w s₁.heap →
      s₁.heap.get? fa=some o→o.data=.func (docDef d.name d.params d.body d.scope pm cd doc)→s₁.heap.CodeRec cd d.name→mg d.name=some (.ref fa) →
      s₁.heap.get? a=some { cls:=.type "list",data:=.seq vs.toArray }→IntsAre vs ns→ns.length≤n→s₁.gens=#[] →
      codeAny (model l.prog w) callerA (.call (.ref fa) ⟨[.ref a],[]⟩) (fun r s'=>r=.ok (.ret (.bool true))∧OldK s₁.heap s'.heap∧s'.os=s₁.os∧AllBare s'.gens) s₁) :
    WalkO q loose XP YP l.row.toRowW d [] (fun f vs=>PySem.call f vs):=by
  intro w s₀ s₁ mg mb G Y fa o pm cd doc dV kV ho hd hcd hD hmg hg args vals as hpre hlay hrd hwl hlo
  obtain rfl:dV=.none:=Dflts.none hD hdf
  obtain rfl:kV=.none:=Dflts.noKw hD
  obtain ⟨a,vs,ns,rfl,rfl,hobj,hints,hlen⟩:=script_of hn hpre hwl
  refine enter_call (codeAny_mono (call w s₀ s₁ mg mb fa o pm cd doc a vs ns G Y ho (fd_plain hd) hcd hmg hobj hints hlen hg) fun r s' hq=>?_)
  obtain ⟨rfl,h2,h3,h4⟩:=hq
  exact ⟨.inl ⟨.bool true,.bool true,[],rfl,fun _=>rfl,.bool true,post_true l _,fun _=>⟨List.Pairwise.nil,fun _ hm=>(nomatch hm)⟩⟩,h2,h3,h4⟩
section
variable {prog:Program} {w:World} {A:Around} {E:Value→Shared→Prop} {s:Shared} {K:Frag}
end
end Att
namespace L2
open PySem PySem.Spec PyProof.Rows
theorem vals_ints:∀ {vs:List Value} {ns:List Int},IntsAre vs ns→Vals (ns.map V.int) vs
  | _,_,.nil=>.nil
  | _,_,.cons n t h=>.cons ⟨t,rfl⟩ (vals_ints h)
def Only (H:Hp):Prop:=∀ b,H b=none∨∃ o xs,H b=some (.frz o (.lst xs))
theorem law_call {P:Program} {w:World} {K:PySem.W.Frag} {mg mb:Str→Option Value} {CX:CXT} {k:Nat} {fa a:Addr} {fd:FuncData} {x:Str} {sp:Sp} {s₁:Shared} {vs:List Value} {ns:List Int}
    (KX:K.In s₁.heap) (hns:s₁.heap.Ns mainGlobals mg) (hb:s₁.heap.Ns builtinsNs mb) (hbb:∀ x:Str,x ≠ "__name__" → mb x=bootBuiltins x) (hlim:s₁.heap.NoLimit) (hbm:BmK mg s₁.heap) (hg:s₁.gens=#[])
    (ha:s₁.heap.get? a=some { cls:=.type "list",data:=.seq vs.toArray }) (hi:IntsAre vs ns) (hl:ns.length≤sizeLine) (hr:Room k callerA)
    (F:∀ base:Heap,K.In base→base.Ns mainGlobals mg→FnOk P w K mg base CX k fa fd [x] sp) (hbind:∀ (s:Shared) (u:Value),BindsTo s fd ⟨[u],[]⟩ [(x,u)])
    (hsp:∀ H:Hp,Only H→SqL K H a (ns.map V.int)→sp [.ref a] H (fun v _=>v=.bl true) fun _ _ _=>False)
    (hCX:∀ H e s',CX callerA.handled [] H s₁ (fun _ _ _=>False) e s'→False) :
    codeAny (model P w) callerA (.call (.ref fa) ⟨[.ref a],[]⟩) (fun r s'=>r=.ok (.ret (.bool true))∧OldK s₁.heap s'.heap∧s'.os=s₁.os∧AllBare s'.gens) s₁:=by
  have rv:=vals_ints hi
  have lenV:=hi.length
  -- from an abstract heap in which nothing but the script may be tracked
  have core:∀ H:Hp,Only H→SqL K H a (ns.map V.int)→HOk P w H s₁.heap→(∀ b,H b≠none→b=a)→(H a≠none→K.lookup a=none) →
      codeAny (model P w) callerA (.call (.ref fa) ⟨[.ref a],[]⟩) (fun r s'=>r=.ok (.ret (.bool true))∧OldK s₁.heap s'.heap∧s'.os=s₁.os∧AllBare s'.gens) s₁:=by
    intro H hO hS hok hA hK
    have base_of:∀ {b:Addr} {o:Obj},s₁.heap.get? b=some o→H b=none→(hidT s₁.heap H).get? b=some o:=fun e n=>hidT_get e n
    have noA:∀ {b:Addr} {o:Obj} {es:Array DictEntry} {ep:Nat},s₁.heap.get? b=some o→o.data=.dict es ep→H b=none:=fun {b o es ep} e d=>by
      cases q:H b with
      | none=>rfl
      | some u =>
        have e':b=a:=hA b (by rw [q]; simp)
        subst e'
        rw [ha] at e; cases e
        have d':Data.seq vs.toArray _=Data.dict es ep:=d
        cases d'
    have nsK:∀ {b:Addr} {m:Str→Option Value},s₁.heap.Ns b m→(hidT s₁.heap H).Ns b m:=fun {b m} ⟨o,es,ep,e,d,r⟩=>⟨o,es,ep,base_of e (noA e d),d,r⟩
    have hKb:K.In (hidT s₁.heap H):=fun b o e=>base_of (KX b o e) (by
      cases q:H b with
      | none=>rfl
      | some u =>
        have e':b=a:=hA b (by rw [q]; simp)
        subst e'
        rw [hK (by rw [q]; simp)] at e; cases e)
    have bmK:∀ {m:Str→Option Value},BmK m s₁.heap→BmK m (hidT s₁.heap H):=fun {m} ⟨bm,ob,e1,e2,e3,e4⟩=>⟨bm,ob,e1,e2,base_of e3 (by
      cases q:H bm with
      | none=>rfl
      | some u =>
        have e':bm=a:=hA bm (by rw [q]; simp)
        subst e'
        rw [ha] at e3; cases e3
        exact absurd (show Value.type "list" = Value.type "module" from e4.1) (by simp)),e4⟩
    have hM:Mod K mg (hidT s₁.heap H):=⟨hKb,nsK hns,⟨mb,nsK hb,hbb⟩,let ⟨mc,h1,h2⟩:=hlim; ⟨mc,nsK h1,h2⟩,bmK hbm⟩
    have e0:Env0 P w K mg (hidT s₁.heap H) callerA [] s₁ H:=⟨rfl,hM,fun b o e=>of_hidT e,Nat.le_of_eq (hidT_size _ _),trivial,fun b hb=>absurd (show b∈([]:List Addr) from hb) (by simp),hok,.of_eq hg,.inl rfl⟩
    refine codeAny_mono ((F _ hKb (nsK hns)).run callerA [] s₁ H ⟨[.ref a],[]⟩ [.ref a] [.ref a] _ _ hr e0 (hbind s₁ (.ref a)) (.cons rfl .nil) (hsp H hO hS)) fun r s' h=>?_
    cases r with
    | error e=>exact (hCX H e s' h).elim
    | ok fl =>
      cases fl with
      | next=>exact False.elim h
      | brk=>exact False.elim h
      | cont=>exact False.elim h
      | ret u =>
        obtain ⟨v,H',os,bare,un,hok',r',q⟩:=h
        have q':v=.bl true:=q
        subst q'
        obtain rfl:u=Value.bool true:=r'
        refine ⟨rfl,OldK.of_keep fun b o e=>?_,os,bare⟩
        cases q:H b with
        | none=>exact un.keep b o e q (by intro z; exact absurd (show b∈([]:List Addr) from z) (by simp)) (by simp)
        | some u =>
          rcases hO b with z | ⟨ob,xs,z⟩
          · rw [q] at z; cases z
          · have z2:=un.frzs b ob _ z
            obtain ⟨e1,_⟩:=hok b _ z
            obtain ⟨e2,_⟩:=hok' b _ z2
            rw [e] at e1; cases e1
            exact e2
  cases hk:K.lookup a with
  | some o =>
    -- the script is one of the module's own objects
    have e:=KX a o hk
    rw [ha] at e
    cases e
    refine core (fun _=>none) (fun _=>.inl rfl) (.inr ⟨_,vs.toArray,_,hk,rfl,rfl,rfl,by rw [List.size_toArray,lenV]; exact hl,by simpa using rv⟩) (fun b u z=>by have z':(none:Option HO)=some u:=z; cases z') (fun b z=>absurd rfl z) fun z=>absurd rfl z
  | none =>
    refine core (fun b=>if b=a then some (.frz { cls:=.type "list",data:=.seq vs.toArray } (.lst (ns.map V.int))) else none) (fun b=>?_) (.inl (.inr ⟨{ cls:=.type "list",data:=.seq vs.toArray },if_pos rfl⟩)) (fun b u z=>?_) (fun b z=>?_) fun _=>hk
    · by_cases hb:b=a
      · exact .inr ⟨_,_,if_pos hb⟩
      · exact .inl (if_neg hb)
    · by_cases hb:b=a
      · have z':=(if_pos hb).symm.trans z
        cases z'
        subst hb
        exact ⟨ha,by rw [List.length_map]; exact hl,vs,_,rv,ha⟩
      · have z':=(if_neg hb).symm.trans z
        cases z'
    · by_cases hb:b=a
      · exact hb
      · exact absurd (if_neg hb) z
end L2
namespace L2
open PySem PySem.Spec PyProof.Rows
abbrev KOf {K:PySem.W.Frag} {h:Heap} (_:K.In h):PySem.W.Frag:=K
theorem walk_of {l : PySem.W.OpenLaw} {n k : Nat} {q : Program} {loose : List Str} {XP : (Str → Option Value) → Heap → Prop} {YP : World → Heap → Prop} {d : DefRec} {K : Params → PySem.W.Frag} {CX : World → CXT} {sp : World → Sp} {x : Str}
    (hn:l.most=some n) (hn2:n≤sizeLine) (hdf:d.params.defaults=[]) (hr:Room k callerA)
    (hY:∀ (w:World) (h:Heap),YP w h→(K w.params).In h)
    (F:∀ (w:World) (mg:Str→Option Value) (fa:Addr) (h:Heap),(K w.params).In h→h.Ns mainGlobals mg→mg d.name=some (.ref fa) →
      ∃ fd:FuncData,(∀ (s:Shared) (u:Value),BindsTo s fd ⟨[u],[]⟩ [(x,u)]) ∧
        ∀ base:Heap,(K w.params).In base→base.Ns mainGlobals mg→FnOk l.prog w (K w.params) mg base (CX w) k fa fd [x] (sp w))
    (hsp:∀ (w:World) (H:Hp) (a:Addr) (ns:List Int),ns.length≤n→Only H→SqL (K w.params) H a (ns.map V.int)→sp w [.ref a] H (fun v _=>v=.bl true) fun _ _ _=>False)
    (hCX:∀ (w:World) (H:Hp) (s:Shared) (e:Value) (s':Shared),CX w callerA.handled [] H s (fun _ _ _=>False) e s'→False) :
    PySem.W.WalkO q loose XP YP l.row.toRowW d [] (fun f vs=>PySem.call f vs):=by
  refine Att.attach_call hn hdf fun w s₀ s₁ mg mb fa o pm cd doc a vs ns G Y ho hd hcd hmg hobj hints hlen hg=>?_
  have KX:=hY w _ Y
  obtain ⟨fd,hb,hF⟩:=F w mg fa _ KX G.T.g hmg
  exact law_call KX G.T.g G.T.b G.T.builtins G.T.nolimit G.T.bmain hg hobj hints (Nat.le_trans hlen hn2) hr hF hb (fun H hO hS=>hsp w H a ns hlen hO hS) fun H e s'=>hCX w H s₁ e s'
end L2
namespace L2
open PySem PySem.Spec PyProof.Rows
def inClass (s:Stmt) (j:Nat):Stmt:=match s with
  | .ClassDef _ _ _ body _ _ _ _ _ _ _=>body.getD j (.Pass ⟨0,0,0,0⟩)
  | _=>.Pass ⟨0,0,0,0⟩
def defArgs (s:Stmt):Arguments:=match s with
  | .FunctionDef _ a _ _ _ _ _ _ _ _=>a
  | _=>{ posonlyargs:=[],args:=[],vararg:=none,kwonlyargs:=[],kw_defaults:=[],kwarg:=none,defaults:=[] }
def defBody (s:Stmt):List Stmt:=match s with
  | .FunctionDef _ _ b _ _ _ _ _ _ _=>b
  | _=>[]
def defScope (s:Stmt):Scope:=match s with
  | .FunctionDef _ _ _ _ _ _ sc _ _ _=>sc
  | _=>{ kind:=.function,names:=[],isGenerator:=false,isCoroutine:=false }
abbrev CX0:CXT:=fun _ _ _ _ _ _ _=>False
abbrev E0:XK:=fun _ _ _=>False
theorem pass0 {X:Cx}:Passes CX0 X E0:=fun _ _ _ _ _ _ _ h=>h.elim
structure Fun (K:PySem.W.Frag) (x qual:Str) (st:Stmt) (f:Addr) (fd:FuncData):Prop where
  ex:∃ (oc:Value) (od:Option Addr) (kV doc pm:Value) (an:Option Addr) (cdv ct:Value) (osl:Array (Option Value)),
    fd=PySem.W.fnOf x qual (defArgs st) (defBody st) (defScope st) .none kV doc pm an cdv ct∧K.lookup f=some ⟨oc,od,.func fd,osl⟩∧PySem.W.codeIn K cdv qual=true
  kp:PySem.W.keepIn K (.ref f)=true
section
variable {P:Program} {w:World} {K:PySem.W.Frag} {mg:Str→Option Value} {base:Heap}
theorem Fun.ok {x qual:Str} {st:Stmt} {f:Addr} {fd:FuncData} {N ps:List Str} {k:Nat} {sp:Sp} (F:Fun K x qual st f fd) (S:FnScope N ps (defScope st)) (len:∀ vs H Q E,sp vs H Q E→vs.length=ps.length)
    (hbody:∀ (cdv:Value) (A:Around) (outer:List Env) (s:Shared) (H:Hp) (vs:List V) (Q:VK) (E:XK),Room k (A.deeper (envOfC qual (defScope st) s.heap.objs.size f cdv))→sp vs H Q E →
      ∃ t,PSs (cxOf CX0 P w K mg base N qual (defScope st) f cdv A outer s H E).nox (defBody st) t∧t { nx:=fun _ H'=>Q .non H',rt:=Q } (start N vs) H):FnOk P w K mg base CX0 (k+1) f fd ps sp:=by
  obtain ⟨oc,od,kV,doc,pm,an,cdv,ct,osl,rfl,lk,hcd⟩:=F.ex
  refine fn_of lk hcd S len fun A outer s H vs Q E hr hsp=>?_
  obtain ⟨t,h,q⟩:=hbody cdv A outer s H vs Q E hr hsp
  exact ⟨t,h.nox,q⟩
theorem Fun.binds {x qual:Str} {st:Stmt} {f:Addr} {fd:FuncData} {ps:List Str} (F:Fun K x qual st f fd)
    (h:∀ (kV doc pm:Value) (an:Option Addr) (cdv ct:Value) (us:List Value),us.length=ps.length→bindArgs (PySem.W.fnOf x qual (defArgs st) (defBody st) (defScope st) .none kV doc pm an cdv ct) ⟨us,[]⟩=pure (ps.zip us)):Binds K fd ps []:=by
  obtain ⟨oc,od,kV,doc,pm,an,cdv,ct,osl,rfl,lk,hcd⟩:=F.ex
  exact .all (h kV doc pm an cdv ct)
theorem fun_mk {x qual:Str} {st:Stmt} {f:Addr} {oc:Value} {od an:Option Addr} {osl:Array (Option Value)} {kV doc pm cdv ct:Value} (l:K.lookup f=some ⟨oc,od,.func (PySem.W.fnOf x qual (defArgs st) (defBody st) (defScope st) .none kV doc pm an cdv ct),osl⟩)
    (c:PySem.W.codeIn K cdv qual=true) (k:PySem.W.keepIn K (.ref f)=true):Fun K x qual st f (PySem.W.fnOf x qual (defArgs st) (defBody st) (defScope st) .none kV doc pm an cdv ct):=⟨⟨oc,od,kV,doc,pm,an,cdv,ct,osl,rfl,l,c⟩,k⟩
end
theorem hu_of {A:Around} {k:Nat} (hr:Room k A):A.units+1<cLine:=Nat.lt_of_le_of_lt (Nat.add_le_add_left (by decide:1≤64) _) hr.units
section
variable {X:Cx}
theorem pv (i:Nat) {x:Str} {pos:Pos} (hN:X.N[i]?=some x:=by rfl) (hv:Vis X.env.scope x:=by first | exact Or.inl rfl | exact Or.inr (Or.inl rfl) | exact Or.inr (Or.inr rfl)) (hd:(x==("__debug__" : Str))=false:=by decide)
    (hcd:(x==("__classdict__" : Str))=false:=by decide):PE X (.Name x pos) (tVar i):=pe_var hN hv hd hcd
end
theorem iteF {A B:Prop} (h:B):if false=true then A else B:=by
  rw [if_neg Bool.false_ne_true]
  exact h
theorem iteT {A B:Prop} (h:A):if true=true then A else B:=by
  rw [if_pos rfl]
  exact h
theorem ite2 {c A B:Prop} [Decidable c] (h1:c→A) (h2:¬ c→B):if c then A else B:=by
  by_cases h:c
  · rw [if_pos h]
    exact h1 h
  · rw [if_neg h]
    exact h2 h
def Same (H H':Hp):Prop:=∀ b o,H b=some o→H' b=some o
theorem Same.refl (H:Hp):Same H H:=fun _ _ h=>h
theorem Same.trans {H H1 H2:Hp} (a:Same H H1) (b:Same H1 H2):Same H H2:=fun c o h=>b c o (a c o h)
theorem Same.free {H H':Hp} (e:Same H H') {l:Addr} (h:H' l=Option.none):H l=Option.none:=by
  cases q:H l with
  | none=>rfl
  | some o =>
    rw [e l o q] at h
    cases h
end L2
namespace L2
open PySem PySem.Spec PyProof.Rows
section
variable {X:Cx}
end
section
variable {κ:Type} [DecidableEq κ]
theorem valV_in {kvs:List (κ×V)} {k:κ} {v:V} (h:valV kvs k=some v):k∈kvs.map (·.1):=by
  have q:(kvs.any fun kv=>decide (kv.1=k))=true:=by
    rw [valV_any,h]
    all_goals rfl
  obtain ⟨p,hp,e⟩:=List.any_eq_true.mp q
  exact List.mem_map.mpr ⟨p,hp,of_decide_eq_true e⟩
end
end L2
end
section
namespace L3
open PySem PySem.Spec PyProof.Rows L2
def closedC (env:Env):List (Str×NameKind)→List (Str×Addr)→List (Str×Addr)
  | [],cs=>cs
  | (n,k)::r,cs=>closedC env r (if (k==.free)=true then (n,(env.cells.lookup n).getD 0)::cs else cs)
theorem closedC_eq {env:Env} {scope:Scope} (h:∀ x∈scope.names,x.2=.free→∃ c,env.cells.lookup x.1=some c):closureFor scope env=pure (closedC env scope.names []):=by
  unfold closureFor
  have go:∀ (l:List (Str×NameKind)) (cs:List (Str×Addr)),(∀ x∈l,x.2=.free→∃ c,env.cells.lookup x.1=some c) →
      (forIn l cs fun (x:Str×NameKind) (r:List (Str×Addr))=>if (x.2==.free)=true then (do let a ← cellOf env x.1; pure (ForInStep.yield ((x.1,a)::r))) else pure (ForInStep.yield r):Sem (List (Str×Addr)))=pure (closedC env l cs):=by
    intro l
    induction l with
    | nil=>intro cs _; rfl
    | cons x l ih =>
      intro cs hl
      obtain ⟨n,k⟩:=x
      have hr:∀ y∈l,y.2=.free→∃ c,env.cells.lookup y.1=some c:=fun y hy=>hl y (List.mem_cons_of_mem _ hy)
      rw [List.forIn_cons,closedC]
      by_cases hk:(k==NameKind.free)=true
      · obtain ⟨c,hc⟩:=hl (n,k) List.mem_cons_self (by simpa using hk)
        have hc:env.cells.lookup n=some c:=hc
        have e:cellOf env n=pure c:=by unfold cellOf; rw [hc]
        simp only [hk,if_true,e,pure_bind,hc,Option.getD_some]
        exact ih _ hr
      · simp only [hk,if_false,pure_bind]
        exact ih _ hr
  have q:=go scope.names [] h
  simp only [bind_pure]
  exact q
theorem closedC_keep {env:Env} {x:Str}:∀ (l:List (Str×NameKind)) (cs:List (Str×Addr)),(∃ c,cs.lookup x=some c)→∃ c,(closedC env l cs).lookup x=some c
  | [],_,h=>h
  | (n,k)::r,cs,h=>by
    rw [closedC]
    refine closedC_keep r _ ?_
    by_cases hk:(k==NameKind.free)=true
    · rw [if_pos hk,List.lookup_cons]
      cases x==n with
      | true=>exact ⟨_,rfl⟩
      | false=>exact h
    · rw [if_neg hk]; exact h
theorem closedC_has {env:Env} {x:Str}:∀ (l:List (Str×NameKind)) (cs:List (Str×Addr)),(x,NameKind.free)∈l→∃ c,(closedC env l cs).lookup x=some c
  | [],_,h=>by cases h
  | (n,k)::r,cs,h=>by
    rw [closedC]
    rcases List.mem_cons.mp h with e | h
    · cases e
      refine closedC_keep r _ ?_
      rw [if_pos (by decide),List.lookup_cons,beq_self_eq_true]
      exact ⟨_,rfl⟩
    · exact closedC_has r _ h
theorem closedC_sound {env : Env} : ∀ (l : List (Str × NameKind)) (cs : List (Str × Addr)), (∀ x ∈ l, x.2 = .free → ∃ c, env.cells.lookup x.1 = some c) → (∀ x c, cs.lookup x = some c → env.cells.lookup x = some c) →
    ∀ x c,(closedC env l cs).lookup x=some c→env.cells.lookup x=some c
  | [],_,_,h=>h
  | (n, k) :: r, cs, hl, h => by
    rw [closedC]
    refine closedC_sound r _ (fun y hy=>hl y (List.mem_cons_of_mem _ hy)) fun x c e=>?_
    by_cases hk:(k==NameKind.free)=true
    · rw [if_pos hk,List.lookup_cons] at e
      cases hx:x==n with
      | true =>
        rw [hx] at e
        obtain rfl:x=n:=by simpa using hx
        obtain ⟨c',hc'⟩:=hl (x,k) List.mem_cons_self (by simpa using hk)
        have hc':env.cells.lookup x=some c':=hc'
        rw [hc'] at e ⊢
        exact e
      | false =>
        rw [hx] at e
        exact h x c e
    · rw [if_neg hk] at e
      exact h x c e
theorem relabel_free {env:Env}:∀ {l:List (Str×NameKind)} {x:Str},l.lookup x=some .free →
    (l.map fun (p:Str×NameKind)=>if (p.2==NameKind.free && env.scope.kind==.function && env.kindOf p.1==some .cell) then (p.1,NameKind.cell) else (p.1,p.2)).lookup x=some .cell ∨
    (l.map fun (p:Str×NameKind)=>if (p.2==NameKind.free && env.scope.kind==.function && env.kindOf p.1==some .cell) then (p.1,NameKind.cell) else (p.1,p.2)).lookup x=some .free
  | [],_,h=>by simp at h
  | (n,k)::r,x,h=>by
    have ih:=@relabel_free env r x
    rw [List.lookup_cons] at h
    rw [List.map_cons]
    by_cases hc:(k==NameKind.free && env.scope.kind==.function && env.kindOf n==some .cell)=true
    · simp only [hc,if_true]
      rw [List.lookup_cons]
      cases hx:x==n with
      | true=>exact .inl rfl
      | false=>rw [hx] at h; exact ih h
    · simp only [hc,Bool.false_eq_true,if_false]
      rw [List.lookup_cons]
      cases hx:x==n with
      | true=>rw [hx] at h; exact .inr h
      | false=>rw [hx] at h; exact ih h
theorem of_relabel {env:Env}:∀ {l:List (Str×NameKind)} {x:Str},(∀ y∈l,y.2≠.cell) →
    ((l.map fun (p:Str×NameKind)=>if (p.2==NameKind.free && env.scope.kind==.function && env.kindOf p.1==some .cell) then (p.1,NameKind.cell) else (p.1,p.2)).lookup x=some .cell ∨
    (l.map fun (p:Str×NameKind)=>if (p.2==NameKind.free && env.scope.kind==.function && env.kindOf p.1==some .cell) then (p.1,NameKind.cell) else (p.1,p.2)).lookup x=some .free)→(x,NameKind.free)∈l
  | [],_,_,h=>by simp at h
  | (n, k) :: r, x, hl, h => by
    have ih:=@of_relabel env r x fun y hy=>hl y (List.mem_cons_of_mem _ hy)
    rw [List.map_cons] at h
    by_cases hc:(k==NameKind.free && env.scope.kind==.function && env.kindOf n==some .cell)=true
    · simp only [hc,if_true] at h
      rw [List.lookup_cons] at h
      cases hx:x==n with
      | true =>
        obtain rfl:x=n:=by simpa using hx
        have:k=.free:=by simp only [Bool.and_eq_true] at hc; simpa using hc.1.1
        rw [this]
        exact List.mem_cons_self
      | false=>rw [hx] at h; exact List.mem_cons_of_mem _ (ih h)
    · simp only [hc,Bool.false_eq_true,if_false] at h
      rw [List.lookup_cons] at h
      cases hx:x==n with
      | true =>
        rw [hx] at h
        obtain rfl:x=n:=by simpa using hx
        rcases h with h | h
        · exact absurd (Option.some.inj h) (hl (x,k) List.mem_cons_self)
        · have:k=.free:=Option.some.inj h
          rw [this]
          exact List.mem_cons_self
      | false=>rw [hx] at h; exact List.mem_cons_of_mem _ (ih h)
abbrev blkEnv (X:Cx) (scope:Scope) (C:Addr):Env:=compEnvC scope (closedC X.env scope.names []) C X.env
abbrev blkCx (X:Cx) (N':List Str) (scope:Scope) (s3:Shared) (H3:Hp) (fp:List Addr):Cx :=
  { X with N:=N',s₀:=s3,H₀:=H3,env:=blkEnv X scope s3.heap.objs.size,outer:=X.stack,stack:=X.stack,ex:=fp,fn:=fun _=>false,pn:=X.pn,xe:=fun _ _=>False }
def blkSt (own:Nat) (fr:List Nat) (σ:L2.St):L2.St:=List.replicate own none++fr.map fun i=>(σ[i]?).join
structure BlkScope (X:Cx) (N':List Str) (own:Nat) (fr:List Nat) (scope:Scope):Prop where
  kind:scope.kind=.function
  nocell:∀ y∈scope.names,y.2≠.cell
  loc:∀ x∈scope.names,x.2=.local→scope.names.lookup x.1=some .local
  free:∀ x∈scope.names,x.2=.free→X.env.kindOf x.1=some .cell∨X.env.kindOf x.1=some .free
  len:N'.length=own+fr.length
  fr:∀ j i,fr[j]?=some i→∃ x,N'[own+j]?=some x∧X.N[i]?=some x∧scope.names.lookup x=some .free
theorem un_sameBut {fs ex:List Addr} {H H':Hp} {h h1 h2:Heap} {C:Addr} (u:Un fs ex H H' h h1) (hC:h.objs.size≤C) (hs:Heap.SameBut C h1 h2):Un fs ex H H' h h2:=by
  have ne:∀ b o,h.get? b=some o→b≠C:=fun b o e=>Nat.ne_of_lt (Nat.lt_of_lt_of_le (Heap.lt_size e) hC)
  refine ⟨fun b o e n hb hx=>(hs.2 b (ne b o e)).trans (u.keep b o e n hb hx),fun b o e n hb hx=>?_,u.free,fun b o e hx=>?_,u.tups,u.frzs,u.tbls⟩
  · obtain ⟨sl,q⟩:=u.slot b o e n hb hx
    exact ⟨sl,(hs.2 b (ne b o e)).trans q⟩
  · obtain ⟨o',q⟩:=u.there b o e hx
    exact ⟨o',(hs.2 b (ne b o e)).trans q⟩
theorem hok_sameBut {P:Program} {w:World} {H:Hp} {h h2:Heap} {C:Addr} (k:HOk P w H h) (hC:H C=none) (hs:Heap.SameBut C h h2):HOk P w H h2:=fun b ob e=>by
  refine (k b ob e).stay (fun c w' hc q=>(hs.2 c ?_).trans q) (fun _ q=>q) fun _ _ q=>q
  rintro rfl
  rcases hc with rfl | hc
  · rw [hC] at e; cases e
  · rw [hC] at hc; cases hc
def PIf (Y : Cx) (ifs : List Expr) (tt : TT) : Prop :=
  ∀ (pins:List (Addr×Obj)) (s:Shared) (σ:L2.St) (H:Hp) (Q:Bool→Hp→Prop),Inv Y pins σ H s→tt σ H Q →
    wpAny (model Y.prog Y.w) Y.A (forIn ifs true fun c r=>if r=true then do let ok ← isTrue c Y.env (eval c Y.env); pure (ForInStep.yield ok) else pure (ForInStep.yield r)) (TP Y pins σ Q) Y.xe s
def tYes:TT:=fun _ H Q=>Q true H
theorem pif_nil {Y:Cx}:PIf Y [] tYes:=fun _ _ _ H _ I h=>wpAny_tests_nil ⟨H,I,h⟩
theorem pif_one {Y:Cx} {c:Expr} {t:TT} (h:PT Y c t):PIf Y [c] t:=fun pins s σ H Q I hq=>wpAny_tests_one (h pins s σ H Q I hq)
section
variable {prog:Program} {w:World} {A:Around} {R:Result→Shared→Prop} {s:Shared}
theorem compLoop_go {elt target iter:Expr} {ifs:List Expr} {scope:Scope} {pos:Pos} {it acc:Value} {env:Env} (J:Nat→Shared→Prop)
    (turn : ∀ n s, J n s → wpAny (model prog w) A (pyNext it) (fun r s₁ => match r with
      | none=>R (.ok .next) s₁
      | some v=>wpAny (model prog w) A (letOwnedTupleGo target it v) (fun _ s₀=>wpAny (model prog w) A (assign target env v) (fun _ s₂ =>
          wpAny (model prog w) A (forIn ifs true fun c r=>if r=true then do let ok ← isTrue c env (eval c env); pure (ForInStep.yield ok) else pure (ForInStep.yield r)) (fun ok s₃ =>
            if ok=true then wpAny (model prog w) A (eval elt env) (fun x s₄ =>
              wpAny (model prog w) A (call (.builtin "list.append") [acc,x]) (fun _ s₅=>∃ m,m<n∧J m s₅) (fun _ _=>False) s₄) (fun _ _=>False) s₃
            else ∃ m,m<n∧J m s₃) (fun _ _=>False) s₂) (fun _ _=>False) s₀) (fun _ _=>False) s₁) (fun _ _=>False) s)
    (n:Nat) (h:J n s) :
    codeAny (model prog w) A (.compLoop (.ListComp elt [⟨target,iter,ifs,0⟩] scope pos) 0 it acc env) R s:=by
  refine codeAny_loop rfl J (fun n s hJ=>?_) n h
  show wpAny _ A ((compTurn (.ListComp elt [⟨target,iter,ifs,0⟩] scope pos) 0 it acc env).onRaise (fun x=>do noteFrame x env; theTreesLotGoes x)) _ _ s
  refine wpAny_noted ?_
  rw [compTurn_list]
  have no:∀ {α:Type} {m:Sem α} {Q:α→Shared→Prop} {E':Value→Shared→Prop} {s':Shared},wpAny (model prog w) A m Q (fun _ _=>False) s'→wpAny (model prog w) A m Q E' s':=fun hm=>wpAny_mono hm (fun _ _ q=>q) fun _ _ f=>f.elim
  refine wpAny_bind (wpAny_standAt (wpAny_bind (no (wpAny_mono (turn n s hJ) (fun r s₁ h₁=>?_) fun _ _ h'=>h'))))
  cases r with
  | none=>exact wpAny_pure h₁
  | some v =>
    refine wpAny_bind (no (wpAny_mono h₁ (fun _ s₀ h₀=>wpAny_bind (no (wpAny_mono h₀ (fun _ s₂ h₂=>wpAny_bind (no (wpAny_mono h₂ (fun ok s₃ h₃=>?_) fun _ _ h'=>h'))) fun _ _ h'=>h'))) fun _ _ h'=>h'))
    cases ok with
    | false=>exact wpAny_pure ⟨rfl,h₃⟩
    | true =>
      exact wpAny_bind (wpAny_bind (no (wpAny_mono h₃ (fun x s₄ h₄=>wpAny_bind (no (wpAny_mono h₄ (fun _ s₅ h₅=>wpAny_pure (wpAny_pure ⟨rfl,h₅⟩)) fun _ _ h'=>h'))) fun _ _ h'=>h')))
end
def Own (own:Nat) (g:TG):Prop:=∀ v σ H Q,g v σ H Q→g v σ H fun σ4 H4=>Q σ4 H4∧σ4.length=σ.length∧∀ i,own≤i→σ4[i]?=σ[i]?
theorem own_name {own i:Nat} (h:i<own):Own own (gName i):=fun v σ H Q q=>⟨q,by simp,fun j hj=>List.getElem?_set_ne (by omega)⟩
def tComp (own : Nat) (fr : List Nat) (wi : TI) (g : TG) (tt : TT) (te : TE) : TE := fun σ H Q => wi σ H fun J H1 => ∀ p, H1 p = none → ∃ W : Nat → Nat → List V → Hp → Prop,
  (∃ m,W 0 m [] (upd H1 p (.lst [])))∧∀ i m acc H2,W i m acc H2→(J.stop i H2∧Q (.ref p) H2)∨(J.go i H2∧∀ x H3,J.yld i H2 x H3→g x (blkSt own fr σ) H3 fun σ4 H4=>tt σ4 H4 fun ok H5 =>
    if ok=true then te σ4 H5 fun v H6=>H6 p=some (.lst acc)∧acc.length<sizeLine∧∃ m',m'<m∧W (i+1) m' (acc++[v]) (upd H6 p (.lst (acc++[v])))
    else ∃ m',m'<m∧W (i+1) m' acc H5)
theorem blk_inv {X:Cx} {scope:Scope} {N':List Str} {own:Nat} {fr:List Nat} {pins:List (Addr×Obj)} {σ:L2.St} {H3:Hp} {s3:Shared} {h4:Heap} {fp:List Addr} {t4:Nat} {m:Str→Option Value} (S:BlkScope X N' own fr scope)
    (I3:Inv X pins σ H3 s3) (hfp:∀ b∈fp,FpOk X pins H3 b∧b<s3.heap.objs.size) (keep:∀ b o,s3.heap.get? b=some o→h4.get? b=some o) (hns:h4.Ns s3.heap.objs.size m) :
    Inv (blkCx X N' scope s3 H3 fp) [] (blkSt own fr σ) H3 { s3 with heap:=h4,toks:=t4 }:=by
  have hcs:∀ x∈scope.names,x.2=.free→∃ c,X.env.cells.lookup x.1=some c:=fun x hx e=>I3.ok.has x.1 (S.free x hx e)
  have snd:∀ x c,(closedC X.env scope.names []).lookup x=some c→X.env.cells.lookup x=some c:=closedC_sound _ _ hcs fun x c e=>by simp at e
  have ok:(blkCx X N' scope s3 H3 fp).Ok:=by
    refine ⟨I3.ok.mod,S.kind,I3.ok.glob,I3.ok.blt,Nat.le_refl _,fun x y c e1 e2=>I3.ok.inj x y c (snd x c e1) (snd y c e2),fun x hx=>closedC_has _ _ (of_relabel S.nocell hx),fun x c z=>(by cases z),I3.ok.hd,I3.ok.frames,.inl rfl,
      fun b hb=>⟨Nat.ne_of_lt (hfp b hb).2,fun x c e=>(hfp b hb).1.2.2.2.2.1 x c (snd x c e)⟩,I3.bs,Nat.le_trans I3.ok.bsz I3.sz,fun b o e hb=>?_,fun b hb hz=>?_,I3.stack,I3.stkFree⟩
    · rcases (hfp b hb).1.2.2.2.1 with z | z
      · exact I3.ok.noex b o e z
      · exact absurd (Nat.lt_of_lt_of_le (Heap.lt_size e) I3.ok.bsz) (Nat.not_lt.mpr z)
    · rcases List.mem_cons.mp (I3.stkSub b hz) with z | z
      · exact (hfp b hb).1.2.1 z
      · exact (hfp b hb).1.2.2.1 z
  refine ⟨ok,rfl,I3.bare,Un.kept keep,⟨m,hns,fun i x v h1 h2 h3=>?_⟩,fun x c e=>?_,I3.hok.fresh (Nat.le_refl _),fun x c e=>I3.freeC x c (snd x c e),fun p hp=>?_,I3.hok.kept keep,?_⟩
  · have h1:N'[i]?=some x:=h1
    have hi:¬ i<own:=fun z=>by
      unfold blkSt at h2
      rw [List.getElem?_append_left (by simpa using z),List.getElem?_replicate] at h2
      split at h2 <;> cases h2
    obtain ⟨j,rfl⟩:∃ j,i=own+j:=⟨i-own,by omega⟩
    unfold blkSt at h2
    rw [List.getElem?_append_right (by simp),List.length_replicate,Nat.add_sub_cancel_left,List.getElem?_map] at h2
    cases ek:fr[j]? with
    | none=>rw [ek] at h2; cases h2
    | some k =>
      rw [ek] at h2
      have h2:(σ[k]?).join=some v:=Option.some.inj h2
      have hσ:σ[k]?=some (some v):=by
        cases q:σ[k]? with
        | none=>rw [q] at h2; cases h2
        | some w'=>rw [q] at h2; exact congrArg some h2
      obtain ⟨x',e1,e2,e3⟩:=S.fr j k ek
      rw [h1] at e1
      cases e1
      have mem:=PySem.mem_of_lookup e3
      have hk:=S.free _ mem rfl
      obtain ⟨m3,hn3,hl3⟩:=I3.loc
      obtain ⟨u,r,look⟩:=hl3 k x v e2 hσ (.inr hk)
      rcases look with ⟨q,_⟩ | ⟨q,c,hc,o,ho,hd⟩
      · rcases hk with z | z
        · have z:X.env.kindOf x=some .cell:=z
          rw [z] at q; cases q
        · have z:X.env.kindOf x=some .free:=z
          rw [z] at q; cases q
      · obtain ⟨c',e'⟩:=closedC_has (env:=X.env) scope.names [] mem
        have e'':=snd x c' e'
        rw [hc] at e''
        cases e''
        exact ⟨u,r,.inr ⟨relabel_free e3,c,e',o,keep _ _ ho,hd⟩⟩
  · obtain ⟨v,o,ho,hd⟩:=I3.cell x c (snd x c e)
    exact ⟨v,o,keep _ _ ho,hd⟩
  · obtain ⟨q1,q2,q3,q4,q5⟩:=I3.pin p (List.mem_append_left _ (by simpa using hp))
    refine ⟨keep _ _ q1,q2,Nat.ne_of_lt (Heap.lt_size q1),fun z=>?_,q5⟩
    rcases List.mem_cons.mp (I3.stkSub _ z) with z | z
    · exact q3 z
    · exact q4 z
  · show (blkSt own fr σ).length=N'.length
    unfold blkSt
    rw [S.len,List.length_append,List.length_replicate,List.length_map]
theorem pe_comp {X:Cx} {tg iter elt:Expr} {ifs:List Expr} {scope:Scope} {pos:Pos} {wi:TI} {g:TG} {tt:TT} {te:TE} {N':List Str} {own:Nat} {fr:List Nat} (hc:X.calm=true)
    (S:BlkScope X N' own fr scope) (hi:PI X tg iter wi) (ho:Own own g) (hg:∀ s3 H3 fp,PG (blkCx X N' scope s3 H3 fp) tg g) (hf:∀ s3 H3 fp,PIf (blkCx X N' scope s3 H3 fp) ifs tt) (he:∀ s3 H3 fp,PE (blkCx X N' scope s3 H3 fp) elt te)
    (hs:∀ x,foldedSetIterable iter X.env x=pure x:=by intro _; rfl):PE X (.ListComp elt [⟨tg,iter,ifs,0⟩] scope pos) (tComp own fr wi g tt te):=by
  intro pins s σ H Q I h
  have hcs:∀ x∈scope.names,x.2=.free→∃ c,X.env.cells.lookup x.1=some c:=fun x hx e=>I.ok.has x.1 (S.free x hx e)
  rw [eval_ListComp]
  refine wpAny_comprehension_free (use:=none) rfl hs (closedC_eq hcs) S.kind S.loc ?_
  refine thn (hi pins s σ H _ I h) fun v s1 h1=>thn h1 fun itv s2 h2=>?_
  obtain ⟨it,fp,tn,J,H2,e,I2,T,st2,f2,h2⟩:=h2
  subst e
  refine wpAny_newObj_type (hd:=by size_fits) (wpAny_newFunctionEnv S.nocell (by intro y hy; simp at hy) (fun h4 hns hsb=>?_) S.kind)
  have hp0:=I2.hok.fresh (Nat.le_refl s2.heap.objs.size)
  obtain ⟨W,⟨m0,w0⟩,turn⟩:=h2 _ hp0
  have I3:Inv X pins σ (upd H2 s2.heap.objs.size (.lst [])) { s2 with heap:=s2.heap.push { cls:=.type "list",dict:=none,data:=.seq ([]:List Value).toArray },toks:=s2.toks }:=I2.lnew .nil (Nat.zero_le _)
  have lt2:∀ b∈fp,b<s2.heap.objs.size:=fun b hb=>let ⟨o,e,_⟩:=T.obj _ _ st2 b hb; Heap.lt_size e
  have up2:∀ b o,s2.heap.get? b=some o→∀ ob:Obj,(s2.heap.push ob).get? b=some o:=fun b o e ob=>Heap.get?_push_of_some _ e
  have sz3:(s2.heap.push { cls:=.type "list",dict:=none,data:=.seq ([]:List Value).toArray }).objs.size=s2.heap.objs.size+1:=Heap.size_push ..
  revert hns hsb I3
  generalize e3:s2.heap.push { cls:=.type "list",dict:=none,data:=.seq ([]:List Value).toArray }=h3 at sz3 ⊢
  intro hns hsb I3
  have keep:∀ b o,h3.get? b=some o→h4.get? b=some o:=fun b o e=>(hsb.2 b (Nat.ne_of_lt (Heap.lt_size e))).trans (Heap.get?_push_of_some _ e)
  have fp3:∀ b∈fp,FpOk X pins (upd H2 s2.heap.objs.size (.lst [])) b∧b<h3.objs.size:=fun b hb=>by
    refine ⟨⟨?_,(f2 b hb).2⟩,by rw [sz3]; exact Nat.lt_succ_of_lt (lt2 b hb)⟩
    rw [upd_ne (Nat.ne_of_lt (lt2 b hb))]
    exact (f2 b hb).1
  have I4:=blk_inv (t4:=s2.toks+([]:List (Str×Value)).length) S I3 fp3 keep hns
  have tn4:tn 0 h4:=T.keep _ _ _ st2 fun b hb o e=>keep b o (by rw [← e3]; exact up2 b o e _)
  have stat:∀ {H':Hp},(∀ b∈fp,H' b=none)→∀ b∈fp,FpOk (blkCx X N' scope { s2 with heap:=h3,toks:=s2.toks } (upd H2 s2.heap.objs.size (.lst [])) fp) [] H' b:=fun {H'} hn b hb =>
    ⟨hn b hb,Nat.ne_of_lt (fp3 b hb).2,fun z=>I4.ok.exfs b hb z,.inl hb,(I4.ok.exf b hb).2,fun p hp=>(f2 b hb).2.2.2.2.2 p (List.mem_append_left _ (by simpa using hp))⟩
  have loop:∀ sx:Shared,Inv (blkCx X N' scope { s2 with heap:=h3,toks:=s2.toks } (upd H2 s2.heap.objs.size (.lst [])) fp) [] (blkSt own fr σ) (upd H2 s2.heap.objs.size (.lst [])) sx→tn 0 sx.heap →
      codeAny (model X.prog X.w) X.A (.compLoop (.ListComp elt [⟨tg,iter,ifs,0⟩] scope pos) 0 (.ref it) (.ref s2.heap.objs.size) (blkEnv X scope h3.objs.size)) (compPost (model X.prog X.w) X.A X.xe none (EP X pins σ Q) (.ref s2.heap.objs.size) h3.objs.size) sx:=by
    intro sx Ix tx
    refine compLoop_go (fun n s'=>∃ i acc H',Inv (blkCx X N' scope { s2 with heap:=h3,toks:=s2.toks } (upd H2 s2.heap.objs.size (.lst [])) fp) [] (blkSt own fr σ) H' s'∧tn i s'.heap∧(∀ b∈fp,H' b=none)∧W i n acc H') ?_ m0 ⟨0,[],_,Ix,tx,fun b hb=>(fp3 b hb).1.1,w0⟩
    rintro n s5 ⟨i,acc,H5,I5,st5,fr5,w5⟩
    rcases turn i n acc H5 w5 with ⟨stop,qn⟩ | ⟨go,step⟩
    · refine thn (T.done (blkCx X N' scope { s2 with heap:=h3,toks:=s2.toks } (upd H2 s2.heap.objs.size (.lst [])) fp) rfl rfl rfl hc i [] s5 _ H5 (fun _ _=>False) I5 (stat fr5) st5 stop) fun r s6 ⟨hr,I6⟩=>?_
      subst hr
      obtain ⟨m6,hm6,_⟩:=id I6.loc
      refine ⟨m6,hm6,fun h7 hs7=>⟨.ref s2.heap.objs.size,H5,?_,rfl,qn⟩⟩
      exact I3.call' (s':={ s6 with heap:=h7 }) (ch:=fp) I6.os (un_sameBut I6.base (Nat.le_refl _) hs7) (hok_sameBut I6.hok I6.free hs7) I6.bare fun b hb=>⟨(f2 b hb).2.2.2.1,(f2 b hb).2.1,(f2 b hb).2.2.2.2.1,(f2 b hb).2.2.2.2.2⟩
    · refine thn (T.item (blkCx X N' scope { s2 with heap:=h3,toks:=s2.toks } (upd H2 s2.heap.objs.size (.lst [])) fp) rfl rfl rfl hc i [] s5 _ H5 (fun _ _=>False) I5 (stat fr5) st5 go) fun r s6 ⟨u,hr,h6⟩=>?_
      subst hr
      refine thn h6 fun _ s7 ⟨x,H7,I7,r7,y7,st7,fr7⟩=>?_
      have I7':=I7.pinned (stat fr7) (T.obj _ _ st7)
      refine thn (hg _ _ _ _ s7 _ H7 x u _ I7' r7 (ho _ _ _ _ (step x H7 y7))) fun _ s8 ⟨σ8,H8,I8,q8,l8,k8⟩=>?_
      have again:∀ {H9:Hp} {s9:Shared},Inv (blkCx X N' scope { s2 with heap:=h3,toks:=s2.toks } (upd H2 s2.heap.objs.size (.lst [])) fp) ([]++pinsAt fp s7.heap) σ8 H9 s9 →
          Inv (blkCx X N' scope { s2 with heap:=h3,toks:=s2.toks } (upd H2 s2.heap.objs.size (.lst [])) fp) [] (blkSt own fr σ) H9 s9∧tn (i+1) s9.heap∧∀ b∈fp,H9 b=none:=fun {H9 s9} I9=>by
        refine ⟨I9.unpinned.weak l8.symm fun j v e=>?_,T.keep _ _ _ st7 fun b hb o e=>(I9.pin (b,o) (List.mem_append_right _ (List.mem_append_right _ (mem_pinsAt hb e)))).1,fun b hb=>?_⟩
        · have hj:own≤j:=by
            refine Nat.le_of_not_lt fun z=>?_
            unfold blkSt at e
            rw [List.getElem?_append_left (by simpa using z),List.getElem?_replicate] at e
            split at e <;> cases e
          rw [k8 j hj]
          exact e
        · obtain ⟨o,e,_⟩:=T.obj _ _ st7 b hb
          exact (I9.pin (b,o) (List.mem_append_right _ (List.mem_append_right _ (mem_pinsAt hb e)))).2.1
      refine thn (hf _ _ _ _ s8 σ8 H8 _ I8 q8) fun ok s9 ⟨H9,I9,q9⟩=>?_
      cases ok with
      | false =>
        obtain ⟨m',hm',w9⟩:=q9
        obtain ⟨a1,a2,a3⟩:=again I9
        exact ⟨m',hm',i+1,acc,H9,a1,a2,a3,w9⟩
      | true =>
        refine thn (he _ _ _ _ s9 σ8 H9 _ I9 q9) fun y s10 ⟨v,H10,I10,r10,hD10,hl10,m',hm',w10⟩=>?_
        refine thn (mt_append _ s10 σ8 H10 (.ref s2.heap.objs.size) [v] (.ref s2.heap.objs.size) [y] (fun _ Hn=>Hn=upd H10 s2.heap.objs.size (.lst (acc++[v]))) I10 rfl (.cons r10 .nil) ⟨_,acc,v,rfl,rfl,hD10,hl10,rfl⟩) fun _ s11 ⟨_,H11,I11,_,e11⟩=>?_
        subst e11
        obtain ⟨a1,a2,a3⟩:=again I11
        exact ⟨m',hm',i+1,acc++[v],_,a1,a2,a3,w10⟩
  exact codeAny_compStart_list (loop _ I4 tn4) (wpAny_mono (T.self X.A 0 _ (fun v s'=>v=.ref it∧s'=_) (fun _ _=>False) tn4 ⟨rfl,rfl⟩) (fun v s' ⟨e1,e2⟩=>by subst e1; subst e2; exact loop _ I4 tn4) fun _ _ f=>f.elim)
def Nx (n i:Nat) (P:Prop):Prop:=∃ m',m'<n-i∧m'=n-(i+1)∧i+1≤n∧P
theorem nx {n i:Nat} {P:Prop} (h:i<n) (p:P):Nx n i P:=⟨n-(i+1),by omega,rfl,h,p⟩
theorem comp_by {J:It} {p:Addr} {H1:Hp} {g:TG} {tt:TT} {te:TE} {b:L2.St} {Q:VK} (n:Nat) (Pv:Nat→List V→Hp→Prop) (h0:Pv 0 [] (upd H1 p (.lst [])))
    (hgo:∀ i acc H2,i<n→Pv i acc H2→J.go i H2∧∀ x H3,J.yld i H2 x H3→g x b H3 fun σ4 H4=>tt σ4 H4 fun ok H5 =>
      if ok=true then te σ4 H5 fun v H6=>H6 p=some (.lst acc)∧acc.length<sizeLine∧Nx n i (Pv (i+1) (acc++[v]) (upd H6 p (.lst (acc++[v])))) else Nx n i (Pv (i+1) acc H5))
    (hd:∀ acc H2,Pv n acc H2→J.stop n H2∧Q (.ref p) H2) :
    ∃ W:Nat→Nat→List V→Hp→Prop,(∃ m,W 0 m [] (upd H1 p (.lst [])))∧∀ i m acc H2,W i m acc H2→(J.stop i H2∧Q (.ref p) H2)∨(J.go i H2∧∀ x H3,J.yld i H2 x H3→g x b H3 fun σ4 H4=>tt σ4 H4 fun ok H5 =>
      if ok=true then te σ4 H5 fun v H6=>H6 p=some (.lst acc)∧acc.length<sizeLine∧∃ m',m'<m∧W (i+1) m' (acc++[v]) (upd H6 p (.lst (acc++[v]))) else ∃ m',m'<m∧W (i+1) m' acc H5):=by
  refine ⟨fun i m acc H=>m=n-i∧i≤n∧Pv i acc H,⟨n,by simp,Nat.zero_le _,h0⟩,?_⟩
  rintro i m acc H2 ⟨rfl,hi,w⟩
  by_cases hlt:i<n
  · exact .inr (hgo i acc H2 hlt w)
  · obtain rfl:i=n:=by omega
    exact .inl (hd acc H2 w)
end L3
end
section
namespace L3
open PySem L2
section
variable {prog:Program} {w:World} {A:Around} {E:Value→Shared→Prop} {s:Shared}
end
section
variable {prog:Program} {w:World} {A:Around} {E:Value→Shared→Prop} {s:Shared}
variable {z TI TO i1 i2:Addr} {f1 f2:List Addr} {n1 n2:Nat} {P1 P2:Nat→Value→Prop} {S1 S2:Nat→Heap→Prop}
end
section
variable {prog:Program} {w:World} {A:Around} {E:Value→Shared→Prop} {s:Shared}
end
end L3
end
section
namespace L3
open PySem PySem.Spec PyProof.Rows L2
section
variable {X:Cx} {pins:List (Addr×Obj)} {σ:L2.St} {H:Hp} {s:Shared} {h':Heap}
end
def Its (z:Str):It:=⟨fun i _=>i<z.cps.size,fun i H x H'=>H'=H∧∃ c,z.cps[i]?=some c∧x=.str ⟨#[c]⟩,fun i _=>z.cps.size≤i⟩
theorem turn_str {P:Program} {w:World} {K:PySem.W.Frag} {tg:Expr} (it:Addr) (z:Str) (t:Tok):Turn P w K tg (Its z) [it] it (fun i h=>h.IsStrIter it (strIterType z) z t i) where
  mem:=by simp
  obj:=fun i h st b hb=>by
    obtain rfl:b=it:=by simpa using hb
    obtain ⟨o,e,c,d⟩:=st
    exact ⟨o,e,fun v q=>by rw [d] at q; cases q⟩
  keep:=fun i h h' st k=>by
    obtain ⟨o,e,r⟩:=st
    exact ⟨o,k it (by simp) o e,r⟩
  item:=by
    intro X hP hw hK hc i pins s σ H E I hf st hg
    subst hP hw hK
    have hi:i<z.cps.size:=hg
    have hx:z.cps[i]?=some z.cps[i]:=by simp [hi]
    obtain ⟨f0,f1,f2,f3,f4,f5⟩:=hf it (by simp)
    have fin:∀ h',h'.IsStrIter it (strIterType z) z t (i+1)→Heap.SameBut it s.heap h'→∃ u,some (Value.str ⟨#[z.cps[i]]⟩ s.toks)=some u ∧
        wpAny (model X.prog X.w) X.A (letOwnedTupleGo tg (.ref it) u) (fun _ s2=>∃ x H',Inv X pins σ H' s2∧RelV x u∧(Its z).yld i H x H'∧s2.heap.IsStrIter it (strIterType z) z t (i+1)∧∀ b∈[it],H' b=none) E { s with heap:=h',toks:=s.toks+1 }:=by
      intro h' st' sb
      have I1:Inv X pins σ H { s with heap:=h',toks:=s.toks+1 }:=I.turned (fun b o hb e=>(sb.2 b hb).trans e) f0 f1 f3 f4 f5
      obtain ⟨o,e,c,d⟩:=id st'
      refine ⟨_,rfl,go_of (s:={ s with heap:=h',toks:=s.toks+1 }) e c d (by unfold strIterType; split <;> decide) ⟨.str ⟨#[z.cps[i]]⟩,H,I1,⟨_,rfl⟩,⟨rfl,_,hx,rfl⟩,st',fun b hb=>(hf b hb).1⟩⟩
    cases ha:z.cps.all (·<128) with
    | true =>
      have e:strIterType z = "str_ascii_iterator" := by simp [strIterType,ha]
      rw [e] at st fin ⊢
      exact wpAny_pyNext_ascii_item st hx fin
    | false =>
      have e:strIterType z = "str_iterator" := by simp [strIterType,ha]
      rw [e] at st fin ⊢
      exact wpAny_pyNext_wide_item st hx fin
  done:=by
    intro X hP hw hK hc i pins s σ H E I hf st hg
    subst hP hw hK
    have hx:z.cps[i]?=none:=by
      have hg:z.cps.size≤i:=hg
      simpa using hg
    obtain ⟨f0,f1,f2,f3,f4,f5⟩:=hf it (by simp)
    have fin:∀ h',Heap.ExtBut it s.heap h'→(none:Option Value)=none∧Inv X pins σ H { s with heap:=h' }:=fun h' eb=>⟨rfl,I.turned (t':=s.toks) (fun b o hb e=>eb b o hb e) f0 f1 f3 f4 f5⟩
    cases ha:z.cps.all (·<128) with
    | true =>
      have e:strIterType z = "str_ascii_iterator" := by simp [strIterType,ha]
      rw [e] at st
      exact next_ascii_end (I.hb hc) (I.hna hc f3 f5) st hx fin
    | false =>
      have e:strIterType z = "str_iterator" := by simp [strIterType,ha]
      rw [e] at st
      exact next_wide_end (I.hb hc) (I.hna hc f3 f5) st hx fin
  self:=fun A i s Q E st h=>by
    cases ha:z.cps.all (·<128) with
    | true =>
      have e:strIterType z = "str_ascii_iterator" := by simp [strIterType,ha]
      rw [e] at st
      exact wpAny_pyIter_striter_ascii st h
    | false =>
      have e:strIterType z = "str_iterator" := by simp [strIterType,ha]
      rw [e] at st
      exact wpAny_pyIter_striter_wide st h
def iStr (tl:TE):TI:=fun σ H R=>tl σ H fun x H1=>∃ z,x=.str z∧R (Its z) H1
theorem pi_str {X:Cx} {tg l:Expr} {tl:TE} (hl:PE X l tl):PI X tg l (iStr tl):=by
  intro pins s σ H R I h
  refine thn (hl pins s σ H _ I h) fun v s1 ⟨x,H1,I1,r1,z,e,q⟩=>?_
  subst e
  obtain ⟨t,rfl⟩:=r1
  refine wpAny_pyIter_strU ?_
  refine ⟨s1.heap.objs.size,[s1.heap.objs.size],_,Its z,H1,rfl,I1.kept (t':=s1.toks) fun b o e=>Heap.get?_push_of_some _ e,turn_str _ z t,⟨_,Heap.get?_push_size _ rfl,rfl,rfl⟩,fun b hb=>?_,q⟩
  obtain rfl:b=s1.heap.objs.size:=by simpa using hb
  exact I1.fpOk (Nat.le_refl _) (I1.hok.fresh (Nat.le_refl _))
structure ZRec (a b z TI TO i1 i2:Addr) (i:Nat) (h:Heap):Prop where
  z:IsZip h z TI TO .none
  TI:IsPair h TI (.ref i1) (.ref i2)
  TO:∃ u v,IsPair h TO u v
  i1:h.IsTupleIter i1 a i
  i2:h.IsTupleIter i2 b i
end L3
end
section
namespace L3
open PySem PySem.Spec PyProof.Rows L2
section
variable {X:Cx}
theorem call_isinst:CallR X (.builtin "isinstance") (fun xs H Q=>∃ x t n b,xs=[x,.ty n]∧TyOf X.K H x t∧PySem.W.kitOne X.K t (.type n)=some b∧Q (.bl b) H):=by
  intro pins s σ H xs us Q I r h
  obtain ⟨x,t,n,b,rfl,ty,e,q⟩:=h
  obtain ⟨u,v,rfl,ru,rv⟩:=r.two
  obtain rfl:v=Value.type n:=rv
  exact isinst_ok I ru ty e fun tk=>⟨.bl b,H,I.tok tk,rfl,q⟩
theorem bls_get:∀ {bs:List Bool} {us:List Value},Vals (bs.map V.bl) us→∀ (i:Nat) (u:Value),us[i]?=some u→u=Value.bool ((bs[i]?).getD true)
  | [],_,.nil,i,u,e=>by simp at e
  | b::bs,_,.cons r t,0,u,e=>by
    have r:_=Value.bool b:=r
    simp at e
    rw [← e,r]
    rfl
  | b::bs,_,.cons r t,i+1,u,e=>by simpa using bls_get t i u (by simpa using e)
theorem call_all_bls (hc:X.calm=true):CallR X (.builtin "all") (fun xs H Q=>∃ (p:Addr) (bs:List Bool),xs=[.ref p]∧SqL X.K H p (bs.map V.bl)∧Q (.bl (bs.all id)) H):=by
  intro pins s σ H xs us Q I r h
  obtain ⟨p,bs,rfl,hq,q⟩:=h
  obtain ⟨u,rfl,ru⟩:=r.one
  cases ru
  obtain ⟨its,rv,pl,hz⟩:=I.list hq
  have hl:=pl.isList
  have lt:p<s.heap.objs.size:=by
    obtain ⟨o,e,_⟩:=hl
    exact Heap.lt_size e
  have na:∀ a,X.A.in1.handled=some (.ref a)→a≠s.heap.objs.size:=fun a ea=>by
    rcases I.hb hc with z | ⟨b,oe,vs,e1,e2,_⟩
    · rw [show X.A.in1.handled=X.A.handled from rfl,z] at ea; cases ea
    · rw [show X.A.in1.handled=X.A.handled from rfl,e1] at ea; cases ea; exact Nat.ne_of_lt (Heap.lt_size e2)
  refine call_all_walk (wpAny_pyIter_list hl ?_)
  refine ⟨s.heap.objs.size,_,[s.heap.objs.size],its.toArray.size,_,_,fun i=>(bs[i]?).getD true,rfl,walks_list _ p (Nat.ne_of_lt lt) its.toArray na,⟨⟨_,Heap.get?_push_size _ rfl,rfl,rfl⟩,hl.push _,(I.hb hc).mono fun a o _ eo=>Heap.get?_push_of_some _ eo⟩,fun i v s' Q' E' hP hQ=>?_,fun h' tk hk=>?_⟩
  · have e:v=.bool ((bs[i]?).getD true):=bls_get rv i v (by simpa using hP)
    subst e
    exact wpAny_truthy_bool hQ
  · have e:((List.range its.toArray.size).all fun i=>(bs[i]?).getD true)=bs.all id:=by
      have n:its.toArray.size=bs.length:=by rw [List.size_toArray,← rv.length,List.length_map]
      rw [n]
      clear n
      rw [Bool.eq_iff_iff,List.all_eq_true,List.all_eq_true]
      constructor
      · intro z x hx
        obtain ⟨i,hi,rfl⟩:=List.mem_iff_getElem.mp hx
        have:=z i (by simpa using hi)
        simpa [hi] using this
      · intro z i hi
        have hi:i<bs.length:=by simpa using hi
        have:=z bs[i] (List.getElem_mem hi)
        simpa [hi] using this
    refine ⟨.bl (bs.all id),H,I.kept (h':=h') (t':=tk) fun b o eb=>hk b o (fun hm=>?_) (Heap.get?_push_of_some _ eb),by rw [e]; rfl,q⟩
    rw [List.mem_singleton.mp hm] at eb
    exact Nat.lt_irrefl _ (Heap.lt_size eb)
end
structure TabK (K:PySem.W.Frag) (a:Addr) (D:List (Str×V)):Prop where
  sys:(a==sysModules)=false
  ex:∃ o es ep,K.lookup a=some o∧o.ExactDict∧o.data=.dict es ep∧KTD.Rows RelV es.toList D
section
variable {X:Cx} {pins:List (Addr×Obj)} {σ:L2.St} {H:Hp} {s:Shared} {a:Addr} {D:List (Str×V)} {k:Str} {tk:Tok} {A:Around} {E:Value→Shared→Prop}
theorem TabK.typeIs (T:TabK X.K a D) (I:Inv X pins σ H s):s.TypeIs (.ref a) "dict" := let ⟨o,_,_,e,x,_⟩:=T.ex; ⟨o,I.kIn a o e,x.1⟩
theorem tab_get {Q:Option Value→Shared→Prop} (T:TabK X.K a D) (I:Inv X pins σ H s) (h1:∀ v u,KTD.datumAt k D=some v→RelV v u→Q (some u) { s with toks:=s.toks+1 })
    (h2:KTD.datumAt k D=none→Q none { s with toks:=s.toks+1 }):wpAny (model X.prog X.w) A (dictGet a (.str k tk)) Q E s:=by
  obtain ⟨_,o,es,ep,ek,_,ed,er⟩:=T
  have eo:=I.kIn a o ek
  unfold dictGet
  try with_reducible refine wpAny_holding ?_
  have ea:(es.all fun e=>isExactStrKey e.key)=true:=by
    obtain ⟨l⟩:=es
    simpa using er.exact
  refine wpAny_bind (wpAny_pyHash_str (wpAny_bind (KTD.kt_dictFind_strs (s:={ s with toks:=s.toks+1 }) eo ed ea ?_)))
  have fq:Q (findBy (fun k v=>v.isStr k) es k) { s with toks:=s.toks+1 }:=by
    have ef:findBy (fun k v=>v.isStr k) es k=(es.toList.find? fun e=>e.key.isStr k).map (·.val):=by
      obtain ⟨l⟩:=es
      simp [findBy]
    rw [ef]
    cases hat:KTD.datumAt k D with
    | some d =>
      obtain ⟨v,hv,hr⟩:=er.find_some hat
      rw [hv]
      exact h1 d v hat hr
    | none =>
      rw [er.find_none hat]
      exact h2 hat
  rw [findBy_of_findIdx?] at fq
  cases hi:es.findIdx? fun e=>e.key.isStr k with
  | none=>rw [hi] at fq; exact wpAny_pure fq
  | some i=>rw [hi] at fq; exact wpAny_bind (wpAny_dictEntries (s:={ s with toks:=s.toks+1 }) eo ed (wpAny_pure fq))
theorem tab_item {Q:Value→Shared→Prop} {v:V} (T:TabK X.K a D) (I:Inv X pins σ H s) (hd:KTD.datumAt k D=some v) (h:∀ u,RelV v u→Q u { s with toks:=s.toks+1 }):wpAny (model X.prog X.w) A (getItem (.ref a) (.str k tk)) Q E s:=by
  have ty:=T.typeIs I
  unfold getItem
  try with_reducible refine wpAny_holding ?_
  refine wpAny_bind (wpAny_sequenceKey ty (by decide) ?_)
  refine wpAny_bind (wpAny_callSpecial?_slot (name:=Str.ofString "__getitem__") ty slot_dict_getitem (wpAny_call_entry slot_dict_getitem ty entry_dict_getitem ?_ (args_dict_getitem _ _)))
  show wpAny (model X.prog X.w) _ (dictGet a (.str k tk) >>= _) _ _ s
  refine wpAny_bind (tab_get T I (fun v' u e r=>?_) fun hn=>?_)
  · rw [hd] at e
    cases e
    exact wpAny_pure ⟨u,rfl,wpAny_pure (h u r)⟩
  · rw [hd] at hn
    cases hn
def inT (k:Str) (D:List (Str×V)):Bool:=(KTD.datumAt k D).isSome
theorem tab_contains {Q:Bool→Shared→Prop} (T:TabK X.K a D) (I:Inv X pins σ H s) (h:Q (inT k D) { s with toks:=s.toks+1 }):wpAny (model X.prog X.w) A (contains (.ref a) (.str k tk)) Q E s:=by
  have ty:=T.typeIs I
  unfold contains
  try with_reducible refine wpAny_holding ?_
  refine wpAny_bind (wpAny_specialOf ty slot_dict_contains.lookup ?_)
  show wpAny (model X.prog X.w) _ (if (some (Value.builtin "dict.__contains__")==some Value.none)=true then _ else _) _ E s
  rw [if_neg (by rw [beq_builtin_none]; exact Bool.false_ne_true)]
  refine wpAny_bind (wpAny_callSpecialUnlessNone?_slot (name:=Str.ofString "__contains__") ty slot_dict_contains (wpAny_call_entry slot_dict_contains ty entry_dict_contains ?_ (args_dict_contains _ _)))
  show wpAny (model X.prog X.w) _ (dictGet a (.str k tk) >>= _) _ _ s
  refine wpAny_bind (tab_get T I (fun v u e _=>?_) fun hn=>?_)
  · have hb:inT k D=true:=by unfold inT; rw [e]; rfl
    rw [hb] at h
    show wpAny (model X.prog X.w) _ (ret (.bool true)) _ _ _
    exact wpAny_pure ⟨_,rfl,wpAny_truthy_bool h⟩
  · have hb:inT k D=false:=by unfold inT; rw [hn]; rfl
    rw [hb] at h
    show wpAny (model X.prog X.w) _ (Builtin.Dict.pendingKey? a (.str k tk) >>= _) _ _ _
    exact wpAny_bind (wpAny_pendingKey_other T.sys (wpAny_pure ⟨_,rfl,wpAny_truthy_bool h⟩))
end
section
variable {X:Cx}
theorem op_notin_tab:OpR X (compareOp .NotIn) (fun x y H Q=>∃ k a D,x=.str k∧y=.ref a∧TabK X.K a D∧Q (.bl (!inT k D)) H):=by
  intro pins s σ H x y v u Q I rx ry h
  obtain ⟨k,a,D,rfl,rfl,T,q⟩:=h
  obtain ⟨t,rfl⟩:=rx
  cases ry
  show wpAny (model X.prog X.w) _ (do return Value.bool (!(← contains (.ref a) (.str k t))):Sem Value) _ _ s
  exact wpAny_bind (tab_contains T I (wpAny_pure ⟨.bl _,H,I.tok _,rfl,q⟩))
def rIxD (K:PySem.W.Frag):R2:=fun x y H Q=>∃ a D k v,x=.ref a∧y=.str k∧TabK K a D∧KTD.datumAt k D=some v∧Q v H
theorem pe_tab {o i:Expr} {pos:Pos} {td ty:TE} (ho:PE X o td) (hi:PE X i ty) (hs:NoSl i):PE X (.Subscript o i pos) (tOp (rIxD X.K) td ty):=by
  intro pins s σ H Q I h
  refine subD_of PySem.F.slot_dict_getitem.lookup hs (thn (ho pins s σ H _ I h) fun u s1 ⟨x,H1,I1,rx,q1⟩=>thn (hi pins s1 σ H1 _ I1 q1) fun iv s2 ⟨y,H2,I2,ry,a,D,k,v,ex,ey,T,e,q2⟩=>?_)
  subst ex ey
  cases rx
  obtain ⟨t,rfl⟩:=ry
  exact ⟨T.typeIs I2,tab_item T I2 e fun u r=>⟨v,H2,I2.tok _,r,q2⟩⟩
end
end L3
end
section
namespace KM
open PySem
inductive D where
  | non
  | bl (b:Bool)
  | int (i:Int)
  | str (x:Str)
  | tup (ds:List D)
deriving Inhabited
mutual
def knots:D→Nat
  | .tup ds=>1+knotsL ds
  | .non=>0
  | .bl _=>0
  | .int _=>0
  | .str _=>0
def knotsL:List D→Nat
  | []=>0
  | d::r=>knots d+knotsL r
end
mutual
def depth:D→Nat
  | .tup ds=>1+depthL ds
  | .non=>0
  | .bl _=>0
  | .int _=>0
  | .str _=>0
def depthL:List D→Nat
  | []=>0
  | d::r=>max (depth d) (depthL r)
end
def isTup:D→Bool
  | .tup _=>true
  | _=>false
def tk:D→List D
  | .tup ds=>ds.filter isTup
  | _=>[]
def lv:Nat→List D→List D
  | 0,l=>l
  | n+1,l=>lv n (l.flatMap tk)
theorem knotsL_filter:∀ l:List D,knotsL (l.filter isTup)=knotsL l
  | []=>rfl
  | d::r=>by
    have ih:=knotsL_filter r
    cases d <;> simp [isTup,List.filter_cons,knotsL,knots,ih]
theorem depthL_filter:∀ l:List D,depthL (l.filter isTup)=depthL l
  | []=>rfl
  | d::r=>by
    have ih:=depthL_filter r
    cases d <;> simp [isTup,List.filter_cons,depthL,depth,ih]
theorem knotsL_app:∀ l r:List D,knotsL (l++r)=knotsL l+knotsL r
  | [],r=>by simp [knotsL]
  | d::l,r=>by simp [knotsL,knotsL_app l r]; omega
theorem depthL_app:∀ l r:List D,depthL (l++r)=max (depthL l) (depthL r)
  | [],r=>by simp [depthL]
  | d::l,r=>by simp only [List.cons_append,depthL,depthL_app l r]; exact (Nat.max_assoc _ _ _).symm
theorem knots_tk:∀ d:D,isTup d=true→knots d=1+knotsL (tk d)
  | .tup ds,_=>by simp [knots,tk,knotsL_filter]
theorem depth_tk:∀ d:D,isTup d=true→depth d=1+depthL (tk d)
  | .tup ds,_=>by simp [depth,tk,depthL_filter]
theorem tk_tups (d:D):∀ x∈tk d,isTup x=true:=by
  cases d <;> simp [tk]
theorem knots_step:∀ l:List D,(∀ x∈l,isTup x=true)→knotsL l=l.length+knotsL (l.flatMap tk)
  | [],_=>rfl
  | d::r,h=>by
    have h1:=knots_step r fun x hx=>h x (List.mem_cons_of_mem _ hx)
    have h2:=knots_tk d (h d List.mem_cons_self)
    simp only [List.flatMap_cons,knotsL_app,knotsL,List.length_cons]
    omega
theorem depth_step:∀ l:List D,(∀ x∈l,isTup x=true)→l≠[]→depthL l=1+depthL (l.flatMap tk)
  | [],_,h=>(h rfl).elim
  | [d],h,_=>by
    have h2:=depth_tk d (h d List.mem_cons_self)
    simp only [List.flatMap_cons,List.flatMap_nil,List.append_nil,depthL]
    omega
  | d::e::r,h,_=>by
    have h1:=depth_step (e::r) (fun x hx=>h x (List.mem_cons_of_mem _ hx)) (by simp)
    have h2:=depth_tk d (h d List.mem_cons_self)
    rw [List.flatMap_cons,depthL_app]
    have h3:depthL (d::e::r)=max (depth d) (depthL (e::r)):=rfl
    omega
theorem tups_step (l:List D):∀ x∈l.flatMap tk,isTup x=true:=by
  intro x hx
  obtain ⟨d,_,h⟩:=List.mem_flatMap.mp hx
  exact tk_tups d x h
theorem lv_nil:∀ n,lv n []=[]
  | 0=>rfl
  | n+1=>by rw [lv,List.flatMap_nil]; exact lv_nil n
theorem lv_succ:∀ n l,lv (n+1) l=(lv n l).flatMap tk
  | 0,l=>rfl
  | n+1,l=>by rw [lv,lv_succ n,← lv]
theorem lv_tups:∀ n l,(∀ x∈l,isTup x=true)→∀ x∈lv n l,isTup x=true
  | 0,_,h=>h
  | n+1,l,_=>lv_tups n _ (tups_step l)
def upto:Nat→List D→Nat
  | 0,_=>0
  | n+1,l=>upto n l+(lv n l).length
theorem upto_succ':∀ n l,upto (n+1) l=l.length+upto n (l.flatMap tk)
  | 0,l=>by simp [upto,lv]
  | n+1,l=>by
    have:=upto_succ' n l
    simp only [upto] at this ⊢
    rw [show lv (n+1) l=lv n (l.flatMap tk) from rfl]
    omega
theorem knots_upto:∀ n l,(∀ x∈l,isTup x=true)→knotsL l=upto n l+knotsL (lv n l)
  | 0,l,_=>by simp [upto,lv]
  | n+1,l,h=>by
    have h1:=knots_step l h
    have h2:=knots_upto n (l.flatMap tk) (tups_step l)
    rw [upto_succ',show lv (n+1) l=lv n (l.flatMap tk) from rfl]
    omega
theorem lv_empty:∀ n l,(∀ x∈l,isTup x=true)→(lv n l=[]↔depthL l≤n)
  | 0,l,h=>by
    cases l with
    | nil=>simp [lv,depthL]
    | cons d r =>
      have:=depth_step (d::r) h (by simp)
      simp only [lv]
      constructor
      · intro q; cases q
      · intro q; omega
  | n + 1, l, h => by
    cases l with
    | nil=>simp [lv_nil,depthL]
    | cons d r =>
      have h1:=depth_step (d::r) h (by simp)
      have h2:=lv_empty n ((d::r).flatMap tk) (tups_step _)
      rw [show lv (n+1) (d::r)=lv n ((d::r).flatMap tk) from rfl,h2]
      omega
theorem upto_knots (n:Nat) (l:List D) (h:∀ x∈l,isTup x=true):upto n l≤knotsL l:=by
  have:=knots_upto n l h
  omega
theorem small_iff (l:List D) (h:∀ x∈l,isTup x=true):(upto 40 l≤600∧lv 40 l=[])↔(knotsL l≤600∧depthL l≤40):=by
  rw [lv_empty 40 l h]
  have e:=knots_upto 40 l h
  constructor
  · rintro ⟨h1,h2⟩
    rw [(lv_empty 40 l h).mpr h2] at e
    simp only [knotsL] at e
    exact ⟨by omega,h2⟩
  · rintro ⟨h1,h2⟩
    exact ⟨by omega,h2⟩
end KM
end
section
namespace L3
open PySem PySem.Spec PyProof.Rows L2 KM
mutual
/-- v stands for d on the heap H -/
def Rep (H:Hp):D→V→Prop
  | .non,v=>v=.non
  | .bl b,v=>v=.bl b
  | .int i,v=>v=.int i
  | .str x,v=>v=.str x∧x.length≤1000
  | .tup ds,v=>∃ a vs,v=.ref a∧H a=some (.tup vs)∧Reps H ds vs
def Reps (H:Hp):List D→List V→Prop
  | [],vs=>vs=[]
  | d::ds,vs=>∃ v r,vs=v::r∧Rep H d v∧Reps H ds r
end
mutual
theorem Rep.mono {H H':Hp} (h:Same H H'):∀ {d:D} {v:V},Rep H d v→Rep H' d v
  | .non,_,r=>r
  | .bl _,_,r=>r
  | .int _,_,r=>r
  | .str _,_,r=>r
  | .tup _,_,⟨a,vs,e,q,r⟩=>⟨a,vs,e,h _ _ q,Reps.mono h r⟩
theorem Reps.mono {H H':Hp} (h:Same H H'):∀ {ds:List D} {vs:List V},Reps H ds vs→Reps H' ds vs
  | [],_,r=>r
  | _::_,_,⟨v,r,e,q,t⟩=>⟨v,r,e,Rep.mono h q,Reps.mono h t⟩
end
theorem Reps.length {H:Hp}:∀ {ds:List D} {vs:List V},Reps H ds vs→vs.length=ds.length
  | [],_,r=>by
    have r:_=[]:=r
    rw [r]; rfl
  | _::_,_,⟨v,r,e,q,t⟩=>by
    rw [e,List.length_cons,List.length_cons,Reps.length t]
theorem Reps.get {H:Hp}:∀ {ds:List D} {vs:List V} {i:Nat} {d:D},Reps H ds vs→ds[i]?=some d→∃ v,vs[i]?=some v∧Rep H d v
  | [],_,_,_,_,e=>by simp at e
  | d::_,_,0,_,⟨v,r,e,q,t⟩,h=>by
    simp at h
    subst h
    exact ⟨v,by rw [e]; rfl,q⟩
  | _::ds,_,i+1,d,⟨v,r,e,q,t⟩,h=>by
    obtain ⟨u,h1,h2⟩:=Reps.get (i:=i) t (by simpa using h)
    exact ⟨u,by rw [e]; simpa using h1,h2⟩
theorem Reps.get' {H:Hp} {ds:List D} {vs:List V} {i:Nat} {v:V} (r:Reps H ds vs) (e:vs[i]?=some v):∃ d,ds[i]?=some d∧Rep H d v:=by
  have hi:i<vs.length:=(List.getElem?_eq_some_iff.mp e).1
  rw [r.length] at hi
  obtain ⟨u,h1,h2⟩:=r.get (d:=ds[i]) (i:=i) (by simp [hi])
  rw [e] at h1
  cases h1
  exact ⟨ds[i],by simp [hi],h2⟩
theorem Reps.append {H:Hp}:∀ {ds es:List D} {vs us:List V},Reps H ds vs→Reps H es us→Reps H (ds++es) (vs++us)
  | [],_,_,_,r,q=>by
    have r:_=[]:=r
    subst r
    exact q
  | _::_,_,_,_,⟨v,r,e,p,t⟩,q=>by
    subst e
    exact ⟨v,r++_,rfl,p,Reps.append t q⟩
theorem Reps.one {H:Hp} {d:D} {v:V} (r:Rep H d v):Reps H [d] [v]:=⟨v,[],rfl,r,rfl⟩
theorem Reps.snoc {H:Hp} {ds:List D} {vs:List V} {d:D} {v:V} (r:Reps H ds vs) (q:Rep H d v):Reps H (ds++[d]) (vs++[v]):=r.append (Reps.one q)
def tyD:D→String
  | .non => "NoneType"
  | .bl _ => "bool"
  | .int _ => "int"
  | .str _ => "str"
  | .tup _ => "tuple"
theorem Rep.ty {K:PySem.W.Frag} {H:Hp}:∀ {d:D} {v:V},Rep H d v→TyOf K H v (.type (tyD d))
  | .non,_,r=>by cases (show _=V.non from r); exact .non
  | .bl b,_,r=>by cases (show _=V.bl b from r); exact .bl b
  | .int i,_,r=>by cases (show _=V.int i from r); exact .int i
  | .str x,_,r=>by cases (show _=V.str x from r.1); exact .str x
  | .tup _,_,⟨a,vs,e,q,_⟩=>by cases e; exact .tup q
def isStrD:D→Bool
  | .str _=>true
  | _=>false
theorem kit_tup (K:PySem.W.Frag) (d:D):PySem.W.kitOne K (.type (tyD d)) (.type "tuple")=some (isTup d):=by cases d <;> rfl
theorem kit_str (K:PySem.W.Frag) (d:D):PySem.W.kitOne K (.type (tyD d)) (.type "str")=some (isStrD d):=by cases d <;> rfl
theorem same_new {H:Hp} {p:Addr} (h:H p=none) (o:HO):Same H (upd H p o):=fun b u q=>by rw [upd_ne (ne_of_none q h)]; exact q
end L3
end
section
namespace L3
open PySem PySem.Spec PyProof.Rows L2
theorem part_of {u:Value} {o:Option Int} (p:IsPart u o):∃ q:Option (Int×Tok),u=partValue q∧q.map (·.1)=o:=by
  cases p with
  | none=>exact ⟨none,rfl,rfl⟩
  | int i t=>exact ⟨some (i,t),rfl,rfl⟩
end L3
end
section
namespace L3
open PySem PySem.Spec PyProof.Rows L2
def tCut (t u:TS):TS:=fun D σ H=>∃ M:L2.St→Hp→Prop,t { D with nx:=M } σ H∧∀ σ' H',M σ' H'→u D σ' H'
theorem pss_cut {X:Cx} {st:Stmt} {rest:List Stmt} {t u:TS} (h1:PS X st t) (h2:PSs X rest u):PSs X (st::rest) (tCut t u):=by
  intro pins s σ H D I h
  obtain ⟨M,h,hM⟩:=h
  refine wpAny_execs_cons (thn (h1 pins s σ H { D with nx:=M } I h) fun f s1 q=>?_)
  cases f with
  | next =>
    obtain ⟨σ',H',I',q⟩:=q
    exact h2 pins s1 σ' H' D I' (hM σ' H' q)
  | ret v=>exact q
  | brk=>exact q
  | cont=>exact q
theorem for_by {J:It} {g:TG} {tb:TS} {D:Ends} {σ:L2.St} {H:Hp} (n:Nat) (Pv:Nat→L2.St→Hp→Prop) (h0:Pv 0 σ H)
    (hgo:∀ i σ H,i<n→Pv i σ H→J.go i H∧∀ x H',J.yld i H x H'→g x σ H' fun σ2 H2=>tb { D with nx:=Pv (i+1),ct:=Pv (i+1),bk:=D.nx } σ2 H2) (hd:∀ σ H,Pv n σ H→J.stop n H∧D.nx σ H) :
    ∃ W:Nat→Nat→L2.St→Hp→Prop,(∃ m,W 0 m σ H)∧∀ i m σ H,W i m σ H →
      (J.stop i H∧D.nx σ H)∨(J.go i H∧∃ N:L2.St→Hp→Prop,(∀ σ' H',N σ' H'→∃ m',m'<m∧W (i+1) m' σ' H')∧∀ x H',J.yld i H x H'→g x σ H' fun σ2 H2=>tb { D with nx:=N,ct:=N,bk:=D.nx } σ2 H2):=by
  refine ⟨fun i m σ H=>m=n-i∧i≤n∧Pv i σ H,⟨n,by simp,Nat.zero_le _,h0⟩,?_⟩
  rintro i m σ H ⟨rfl,hi,p⟩
  by_cases hlt:i<n
  · obtain ⟨g1,g2⟩:=hgo i σ H hlt p
    exact .inr ⟨g1,Pv (i+1),fun σ' H' p'=>⟨n-(i+1),by omega,rfl,hlt,p'⟩,g2⟩
  · obtain rfl:i=n:=by omega
    exact .inl (hd σ H p)
def SameX (p:Addr) (H H':Hp):Prop:=∀ b o,b≠p→H b=some o→H' b=some o
theorem SameX.upd {p:Addr} {H:Hp} (o:HO):SameX p H (upd H p o):=fun b u n h=>by rw [upd_ne n]; exact h
mutual
theorem Rep.monoX {p:Addr} {H H':Hp} (h:SameX p H H') (hp:∀ vs,H p≠some (.tup vs)):∀ {d:KM.D} {v:V},Rep H d v→Rep H' d v
  | .non,_,r=>r
  | .bl _,_,r=>r
  | .int _,_,r=>r
  | .str _,_,r=>r
  | .tup _,_,⟨a,vs,e,q,r⟩=>⟨a,vs,e,h _ _ (fun z=>hp vs (by rw [← z]; exact q)) q,Reps.monoX h hp r⟩
theorem Reps.monoX {p:Addr} {H H':Hp} (h:SameX p H H') (hp:∀ vs,H p≠some (.tup vs)):∀ {ds:List KM.D} {vs:List V},Reps H ds vs→Reps H' ds vs
  | [],_,r=>r
  | _::_,_,⟨v,r,e,q,t⟩=>⟨v,r,e,Rep.monoX h hp q,Reps.monoX h hp t⟩
end
end L3
end
section
namespace L3
open PySem PySem.Spec PyProof.Rows L2
section
variable {prog:Program} {w:World} {A:Around} {E:Value→Shared→Prop} {s:Shared} {d:Addr} {o:Obj} {es:Array DictEntry} {ep:Nat} {hsh:Int}
end
section
variable {X:Cx} {pins:List (Addr×Obj)} {σ:L2.St} {H:Hp} {s:Shared} {a:Addr} {D:List (Str×V)} {A:Around} {E:Value→Shared→Prop}
end
end L3
end
section
namespace L3
open PySem L2
section
variable {prog:Program} {w:World} {A:Around} {E:Value→Shared→Prop} {s:Shared}
end
section
variable {prog:Program} {w:World} {A:Around} {E:Value→Shared→Prop} {s:Shared}
end
end L3
end
section
namespace L3
open PySem PySem.Spec PyProof.Rows L2
structure ZRecL (a b z TI TO i1 i2:Addr) (i:Nat) (h:Heap):Prop where
  z:IsZip h z TI TO .none
  TI:IsPair h TI (.ref i1) (.ref i2)
  TO:∃ u v,IsPair h TO u v
  i1:h.IsListIter i1 a i
  i2:h.IsListIter i2 b i
end L3
end
section
namespace L3
open PySem PySem.Spec PyProof.Rows L2
theorem bt_tuple:bootBuiltins "tuple" = some (.type "tuple"):=by decide +kernel
theorem bt_int:bootBuiltins "int" = some (.type "int"):=by decide +kernel
theorem bt_str:bootBuiltins "str" = some (.type "str"):=by decide +kernel
theorem bt_list:bootBuiltins "list" = some (.type "list"):=by decide +kernel
theorem bt_len:bootBuiltins "len" = some (.builtin "len"):=by decide +kernel
theorem bt_isinstance:bootBuiltins "isinstance" = some (.builtin "isinstance"):=by decide +kernel
theorem bt_all:bootBuiltins "all" = some (.builtin "all"):=by decide +kernel
theorem bt_max:bootBuiltins "max" = some (.builtin "max"):=by decide +kernel
def Df (K:PySem.W.Frag) (mg:Str→Option Value) (x:Str) (st:Stmt) (ps:List Str):Prop:=∃ f fd,Fun K x x st f fd∧mg x=some (.ref f)∧Binds K fd ps []
def Cal (P:Program) (w:World) (K:PySem.W.Frag) (mg:Str→Option Value) (CX:CXT) (x:Str) (k:Nat) (ps:List Str) (sp:Sp):Prop :=
  ∃ f fd,(∀ base,FnOk P w K mg base CX k f fd ps sp)∧mg x=some (.ref f)∧PySem.W.keepIn K (.ref f)=true∧Binds K fd ps []
section
variable {P:Program} {w:World} {K:PySem.W.Frag} {mg:Str→Option Value}
theorem Df.ok {x:Str} {st:Stmt} {N ps:List Str} {k:Nat} {sp:Sp} (D:Df K mg x st ps) (S:FnScope N ps (defScope st)) (len:∀ vs H Q E,sp vs H Q E→vs.length=ps.length)
    (hbody:∀ (base:Heap) (f:Addr) (cdv:Value) (A:Around) (outer:List Env) (s:Shared) (H:Hp) (vs:List V) (Q:VK) (E:XK),Room k (A.deeper (envOfC x (defScope st) s.heap.objs.size f cdv))→sp vs H Q E →
      ∃ t,PSs (cxOf CX0 P w K mg base N x (defScope st) f cdv A outer s H E).nox (defBody st) t∧t { nx:=fun _ H'=>Q .non H',rt:=Q } (start N vs) H):Cal P w K mg CX0 x (k+1) ps sp:=by
  obtain ⟨f,fd,F,m,b⟩:=D
  exact ⟨f,fd,fun base=>F.ok S len (hbody base f),m,F.kp,b⟩
theorem Cal.never {x:Str} {st:Stmt} {ps:List Str} {sp:Sp} {k:Nat} {CX:CXT} (D:Df K mg x st ps) (no:∀ vs H Q E,¬ sp vs H Q E):Cal P w K mg CX x k ps sp:=by
  obtain ⟨f,fd,F,m,b⟩:=D
  exact ⟨f,fd,fun base=>⟨fun vs H Q E h=>absurd h (no vs H Q E),fun A outer s H args us vs Q E _ _ _ _ h=>absurd h (no vs H Q E)⟩,m,F.kp,b⟩
end
def hidX (h:Heap) (H:Hp) (fs:List Addr):Heap:=PySem.W.hideAll (hidT h H) fs
theorem hidX_get {h:Heap} {H:Hp} {fs:List Addr} {b:Addr} {o:Obj} (e:h.get? b=some o) (n:H b=none) (hf:b∉fs):(hidX h H fs).get? b=some o:=PySem.W.hideAll_get _ (hidT_get e n) hf
theorem of_hidX {h:Heap} {H:Hp} {fs:List Addr} {b:Addr} {o:Obj} (e:(hidX h H fs).get? b=some o):h.get? b=some o∧H b=none:=of_hidT (PySem.W.of_hideAll fs e)
theorem hidX_size (h:Heap) (H:Hp) (fs:List Addr):(hidX h H fs).objs.size=h.objs.size:=(PySem.W.hideAll_size _ _).trans (hidT_size h H)
theorem funFrames_of {h B B':Heap}:∀ {l:List Env},h.FunFrames B l→(∀ L∈frs l,B'.get? L=none)→h.FunFrames B' l
  | [],_,_=>trivial
  | env::l,⟨hk,⟨L,o,hf,_,ho,hd⟩,hr⟩,hn=>⟨hk,⟨L,o,hf,hn L (by unfold frs; rw [List.filterMap_cons,hf]; exact List.mem_cons_self),ho,hd⟩,funFrames_of hr fun b hb=>hn b (by unfold frs at hb ⊢; rw [List.filterMap_cons,hf]; exact List.mem_cons_of_mem _ hb)⟩
theorem env1 {X:Cx} {pins:List (Addr×Obj)} {σ:L2.St} {H:Hp} {s:Shared} (I:Inv X pins σ H s) (hc:X.calm=true):Env0 X.prog X.w X.K X.mg (hidX s.heap H (frs X.stack)) X.A X.stack s H:=by
  have nf:∀ b o,X.base.get? b=some o→b∉frs X.stack:=fun b o e z=>by
    rcases List.mem_cons.mp (I.stkSub b z) with z | z
    · have:=Heap.lt_size e
      rw [z] at this
      exact absurd this (Nat.not_lt.mpr (Nat.le_trans I.ok.bsz I.ok.above))
    · exact I.ok.nofr e z
  have up:∀ b o,X.base.get? b=some o→(hidX s.heap H (frs X.stack)).get? b=some o:=fun b o e=>hidX_get (I.bs b o e).1 (I.bs b o e).2 (nf b o e)
  obtain ⟨mb,b1,b2⟩:=I.ok.mod.blt
  refine ⟨I.ok.frames,⟨I.ok.mod.kin.keeps up,I.ok.mod.glob.keeps up,⟨mb,b1.keeps up,b2⟩,I.ok.mod.nolimit.keeps up,I.ok.mod.bm.keeps up⟩,fun b o e=>of_hidX e,Nat.le_of_eq (hidX_size _ _ _),funFrames_of I.stack fun L hL=>PySem.W.hideAll_none _ hL,I.stkFree,I.hok,I.bare,?_⟩
  rcases I.ok.hd hc with h | ⟨a,oe,vs,e1,e2,e3⟩
  · exact .inl h
  · refine .inr ⟨a,oe,vs,e1,?_,e3⟩
    rcases e2 with e2 | e2
    · exact up a oe e2
    · obtain ⟨q1,q2,q3,q4,_⟩:=I.pin (a,oe) (List.mem_append_left _ e2)
      refine hidX_get q1 q2 fun z=>?_
      rcases List.mem_cons.mp (I.stkSub a z) with z | z
      · exact q3 z
      · exact q4 z
theorem run_cal {X:Cx} {CX:CXT} {k:Nat} {f:Addr} {fd:FuncData} {ps:List Str} {sp:Sp} {E:XK} {pins:List (Addr×Obj)} {σ:L2.St} {H:Hp} {s:Shared} {Q:VK} {us:List Value} {vs:List V} {XE:Value→Shared→Prop}
    (F:∀ base,FnOk X.prog X.w X.K X.mg base CX k f fd ps sp) (hr:Room k X.A) (hb:Binds X.K fd ps []) (I:Inv X pins σ H s) (hc:X.calm=true) (hx:∀ e s',CX X.A.handled X.stack H s E e s'→XE e s') (r:Vals vs us) (h:sp vs H Q E) :
    wpAny (model X.prog X.w) X.A (call (.ref f) us) (EP X pins σ Q) XE s:=by
  have hl:us.length=ps.length:=by rw [← r.length]; exact (F (hidX s.heap H (frs X.stack))).len _ _ _ _ h
  have bt:=hb s us I.kIn (by rw [List.append_nil]; exact hl)
  rw [List.append_nil] at bt
  refine wpAny_call (codeAny_mono ((F _).run X.A X.stack s H ⟨us,[]⟩ us vs Q E hr (env1 I hc) bt r h) fun r s' hq=>?_)
  cases r with
  | error e=>exact hx e s' hq
  | ok fl =>
    cases fl with
    | ret u=>exact I.after hq
    | next=>exact False.elim hq
    | brk=>exact False.elim hq
    | cont=>exact False.elim hq
theorem pe_fn {X:Cx} {CX:CXT} {x:Str} {k:Nat} {ps:List Str} {sp:Sp} {E:XK} {e:Expr} {es:List Expr} {t:TA} {p pos:Pos} (F:Cal X.prog X.w X.K X.mg CX x k ps sp) (hr:Room k X.A) (hg:Gl X x) (hx:Passes CX X E)
    (ha:PA X (e::es) t) (hdb:(x==("__debug__" : Str))=false:=by decide) (he:starEach (e::es) X.env=(false,eval e X.env)::starEach es X.env:=by rfl) (hpl:(backTo pos (starEach es X.env)).any (·.1)=false:=by rfl) (hc:X.calm=true:=by rfl) :
    PE X (.Call (.Name x p) (e::es) [] pos) (tCall sp [] E t):=by
  obtain ⟨f,fd,F,m,kp,b⟩:=F
  intro pins s σ H Q I h
  refine wpAny_Call_Name_kw (ld_glob I hg m ?_ hdb)
  refine PySem.W.callWith_K (h₀:=X.base) I.ok.mod.kin kp (thn (ha pos pins s σ H _ I h) fun us s1 ⟨vs,H1,I1,r,q⟩=>⟨I1.kIn,?_⟩) he hpl
  have q:sp (vs++[]) H1 Q E:=q
  rw [List.append_nil] at q
  exact run_cal F hr b I1 hc (fun e s' hc=>hx pins σ H1 s1 e s' I1 hc) r q
theorem pe_gint {X:Cx} {x:Str} {i:Int} {pos:Pos} (hm:∃ t,X.mg x=some (.int i t)) (hg:Gl X x) (hd:(x==("__debug__" : Str))=false:=by decide):PE X (.Name x pos) (tC (.int i)):=by
  obtain ⟨t,hm⟩:=hm
  exact pe_glob hg hm ⟨t,rfl⟩ hd
theorem pe_gstr {X:Cx} {x:Str} {z:Str} {pos:Pos} (hm:∃ t,X.mg x=some (.str z t)) (hg:Gl X x) (hd:(x==("__debug__" : Str))=false:=by decide):PE X (.Name x pos) (tC (.str z)):=by
  obtain ⟨t,hm⟩:=hm
  exact pe_glob hg hm ⟨t,rfl⟩ hd
theorem pe_gref {X:Cx} {x:Str} {a:Addr} {pos:Pos} (hm:X.mg x=some (.ref a)) (hg:Gl X x) (hd:(x==("__debug__" : Str))=false:=by decide):PE X (.Name x pos) (tC (.ref a)):=pe_glob hg hm rfl hd
theorem pe_ty {X:Cx} {x:Str} {n:String} {pos:Pos} (hm:X.mg x=none) (hv:bootBuiltins x=some (.type n)) (hg:Gl X x) (hn:x ≠ "__name__" := by decide) (hd:(x==("__debug__" : Str))=false:=by decide):PE X (.Name x pos) (tC (.ty n)):=pe_bltn hg hm hv rfl hn hd
def blkChk (outer : List (Str × NameKind)) (N N' : List Str) (own : Nat) (fr : List Nat) (scope : Scope) : Bool :=
  scope.names.all (fun y=>y.2 != .cell && (y.2 != .local || scope.names.lookup y.1==some .local) && (y.2 != .free || outer.lookup y.1==some .cell || outer.lookup y.1==some .free)) &&
  decide (N'.length=own+fr.length) && (List.range fr.length).all (fun j=>match fr[j]? with
    | some i=>match N'[own+j]? with
      | some x=>N[i]?==some x && scope.names.lookup x==some .free
      | none=>false
    | none=>true)
theorem blk_of {X:Cx} {N N':List Str} {own:Nat} {fr:List Nat} {sc scope:Scope} (hs:X.env.scope=sc) (hN:X.N=N) (hk:scope.kind=.function) (h:blkChk sc.names N N' own fr scope=true):BlkScope X N' own fr scope:=by
  unfold blkChk at h
  simp only [Bool.and_eq_true,List.all_eq_true,decide_eq_true_eq] at h
  obtain ⟨⟨h1,h2⟩,h3⟩:=h
  subst hN
  refine ⟨hk,fun y hy=>?_,fun y hy e=>?_,fun y hy e=>?_,h2,fun j i e=>?_⟩
  · simpa using (h1 y hy).1.1
  · have:=(h1 y hy).1.2
    simpa [e] using this
  · have:=(h1 y hy).2
    unfold Env.kindOf
    rw [hs]
    simpa [e] using this
  · have hj:j<fr.length:=(List.getElem?_eq_some_iff.mp e).1
    have:=h3 j (by simpa using hj)
    rw [e] at this
    cases hx:N'[own+j]? with
    | none=>simp [hx] at this
    | some x =>
      simp only [hx,Bool.and_eq_true,beq_iff_eq] at this
      exact ⟨x,rfl,this.1,this.2⟩
end L3
end
section
namespace L3
open PySem PySem.Spec PyProof.Rows L2
theorem args_maxD (a v:Value):argsOk "max" ⟨[a],[(Str.ofString "default",v)]⟩:=by unfold argsOk; kernel_rfl
section
variable {prog:Program} {w:World} {A:Around} {E:Value→Shared→Prop} {s:Shared}
theorem call_treeKw {id:String} {b:Builtin} {args:List Value} {kw:List (Str×Value)} {Q:Value→Shared→Prop} (hk:builtinKind id=none) (hp:plainId id=true)
    (hb:entryFor table id=some b) (ha:argsOk id ⟨args,kw⟩)
    (hc:wpAny (model prog w) A.in1 (b ⟨args,kw⟩) (fun fin s'=>match fin with
      | .done f=>(match (Except.ok f:Result) with | .ok (.ret v)=>Q v s' | .ok _=>False | .error e=>E e s')
      | .again c'=>c'.quiet=true∧codeAny (model prog w) A c' (fun r s'=>match r with | .ok (.ret v)=>Q v s' | .ok _=>False | .error e=>E e s') s') E s) :
    wpAny (model prog w) A (call (.builtin id) args kw) Q E s:=by
  refine wpAny_call (codeAny_call_builtin hp hb ?_)
  simp only [checkBuiltinCall,hk]
  cases hsig:Manifest.signature? id with
  | none=>exact wpAny_pure hc
  | some sig =>
    simp only [argsOk,hsig] at ha
    have h2:Bind.checkArgs id sig ⟨args,kw⟩=pure ():=ha
    show wpAny _ A.in1 (Bind.checkArgs id sig ⟨args,kw⟩) _ _ s
    rw [h2]; exact wpAny_pure hc
theorem gt_ints {i j:Int} {t u:Tok} {Q:Value→Shared→Prop} (h:Q (.bool (decide (i>j))) s):wpAny (model prog w) A (richCompare .Gt (.int i t) (.int j u)) Q E s :=
  richCompare_gives (op:=.Gt) (typeIs_int s _ t) (typeIs_int s _ u) F.slot_int_gt F.entry_int_gt (F.args_int_gt_2 _ _) (gives_int_gt _ _ t u) (fun x=>nomatch x) h
end
def mxI (m x:Int):Int:=if x>m then x else m
def maxD (ns:List Int) (d:Int):Int:=match ns with
  | []=>d
  | a::r=>r.foldl mxI a
def bestIs (ns:List Int) (j:Nat) (l:Array Value):Prop:=(j=0∧l=#[])∨(0<j∧∃ t,l=#[.int (maxD (ns.take j) 0) t,.int (maxD (ns.take j) 0) t])
theorem maxD_snoc {l:List Int} (x d:Int) (h:l≠[]):maxD (l++[x]) d=mxI (maxD l d) x:=by
  cases l with
  | nil=>exact absurd rfl h
  | cons a r=>simp [maxD,List.foldl_append]
section
variable {prog:Program} {w:World} {A:Around} {R:Result→Shared→Prop} {I:Addr} {fp wr:List Addr} {P:Nat→Value→Prop} {St:Nat→Heap→Prop}
theorem max_loopD {ns:List Int} {d:Value} (W:Walks prog w A.in1 I fp wr ns.length P St) (hP:∀ (i:Nat) v,P i v→∃ x t,ns[i]?=some x∧v=.int x t) (S:Addr) (hSf:S∉fp) :
    ∀ (k j:Nat) (s:Shared) (l:Array Value) (c:Nat),ns.length-j=k→j≤ns.length→St j s.heap→bestIs ns j l →
    s.heap.get? S=some { cls:=.type "list",dict:=none,data:=.seq l c,slots:=#[] } →
    (∀ v h' tk,(ns=[]∧v=d∨ns≠[]∧∃ t,v=.int (maxD ns 0) t)→(∀ b o,b∉wr→b≠S→s.heap.get? b=some o→h'.get? b=some o)→R (.ok (.ret v)) { s with heap:=h',toks:=tk }) →
    codeAny (model prog w) A (.builtin "max.loop" ⟨[.ref I,.none,.ref S],[(Str.ofString "default",d)]⟩) R s:=by
  have hSw:S∉wr:=fun h=>hSf (W.sub _ h)
  have hname:(toString "max" ++ toString ".loop" : String) = "max.loop" := by decide
  intro k
  induction k with
  | zero =>
    intro j s l c hk hj hst hb hS hR
    have hin:j=ns.length:=by omega
    refine codeAny_builtin F.entry_max_loop ?_
    rw [Around.under_plainId F.plain_max_loop _]
    show wpAny _ A.in1 (seqItems? (.ref S) >>= _) _ _ s
    refine wpAny_bind (wpAny_seqItems hS rfl ?_)
    rcases hb with ⟨h0,rfl⟩ | ⟨h0,t,rfl⟩
    · show wpAny _ A.in1 (tryCatch (pyNext (.ref I)) _ >>= _) _ _ s
      refine wpAny_bind (wpAny_tryCatch (W.done s _ _ (hin ▸ hst) fun h' tk hk'=>?_))
      show wpAny _ A.in1 (rule _ >>= _) _ _ _
      refine wpAny_bind (wpAny_rule (wpAny_pure ?_))
      have e:ns=[]:=List.eq_nil_of_length_eq_zero (by omega)
      exact hR d _ tk (.inl ⟨e,rfl⟩) fun b o hbw hbS q=>hk' b o hbw q
    · show wpAny _ A.in1 (tryCatch (pyNext (.ref I)) _ >>= _) _ _ s
      refine wpAny_bind (wpAny_tryCatch (W.done s _ _ (hin ▸ hst) fun h' tk hk'=>?_))
      have hS':=hk' S _ hSw hS
      show wpAny _ A.in1 (updateSeq S (fun _=>#[]) >>= _) _ _ _
      refine wpAny_bind ?_
      refine wpAny_updateSeq hS' rfl (wpAny_bind (wpAny_letGo (wpAny_pure ?_)))
      have e:ns≠[]:=fun z=>by rw [z] at hin; simp at hin; omega
      refine hR _ _ tk (.inr ⟨e,t,by rw [hin,List.take_length]⟩) fun b o hbw hbS q=>(Heap.get?_update_other _ _ (Ne.symm hbS)).trans (hk' b o hbw q)
  | succ k ih =>
    intro j s l c hk hj hst hb hS hR
    have hlt:j<ns.length:=by omega
    refine codeAny_builtin F.entry_max_loop ?_
    rw [Around.under_plainId F.plain_max_loop _]
    show wpAny _ A.in1 (seqItems? (.ref S) >>= _) _ _ s
    refine wpAny_bind (wpAny_seqItems hS rfl ?_)
    have tk1:∀ x,ns[j]?=some x→ns.take (j+1)=ns.take j++[x]:=fun x hx=>by rw [List.take_add_one,hx]; rfl
    rcases hb with ⟨h0,rfl⟩ | ⟨h0,t,rfl⟩
    · show wpAny _ A.in1 (tryCatch (pyNext (.ref I)) _ >>= _) _ _ s
      refine wpAny_bind (wpAny_tryCatch (W.item j s _ _ hlt hst fun v h' tk hPv hst' hk'=>?_))
      obtain ⟨x,u,hx,rfl⟩:=hP j v hPv
      have hS':=hk' S _ hSw hS
      show wpAny _ A.in1 (updateSeq S (fun _=>#[.int x u,.int x u]) >>= _) _ _ _
      refine wpAny_bind ?_
      refine wpAny_updateSeq hS' rfl ?_
      rw [hname]
      refine wpAny_pure ⟨plainId_quiet F.plain_max_loop _,ih (j+1) _ _ _ (by omega) hlt (W.frame _ _ _ hst' fun b hbf o e=>?_) (.inr ⟨by omega,u,?_⟩) (Heap.get?_update_self _ hS' rfl) fun v' h'' tk'' hv' hk''=>?_⟩
      · exact (Heap.get?_update_other _ _ (fun h:S=b=>hSf (by rw [h]; exact hbf))).trans e
      · rw [tk1 x hx,h0]
        rfl
      · exact hR v' h'' tk'' hv' fun b o hbw hbS e=>hk'' b o hbw hbS ((Heap.get?_update_other _ _ (Ne.symm hbS)).trans (hk' b o hbw e))
    · show wpAny _ A.in1 (tryCatch (pyNext (.ref I)) _ >>= _) _ _ s
      refine wpAny_bind (wpAny_tryCatch (W.item j s _ _ hlt hst fun v h' tk hPv hst' hk'=>?_))
      obtain ⟨x,u,hx,rfl⟩:=hP j v hPv
      have hS':=hk' S _ hSw hS
      have ne:ns.take j≠[]:=fun z=>by
        have:(ns.take j).length=0:=by rw [z]; rfl
        rw [List.length_take] at this
        omega
      have em:maxD (ns.take (j+1)) 0=mxI (maxD (ns.take j) 0) x:=by rw [tk1 x hx,maxD_snoc x 0 ne]
      show wpAny _ A.in1 (tryCatch (holding [.int x u,.int x u] (richCompare .Gt (.int x u) (.int (maxD (ns.take j) 0) t) >>= _)) _ >>= _) _ _ _
      refine wpAny_bind (wpAny_tryCatch (wpAny_holding (wpAny_bind (gt_ints ?_))))
      refine wpAny_bind (wpAny_holding (wpAny_truthy_bool ?_))
      refine wpAny_bind (wpAny_letGo (wpAny_pure ?_))
      by_cases hb:x>maxD (ns.take j) 0
      · rw [decide_eq_true hb]
        simp only [if_true]
        refine wpAny_bind ?_
        refine wpAny_updateSeq hS' rfl (wpAny_bind (wpAny_letGo ?_))
        rw [hname]
        refine wpAny_pure ⟨plainId_quiet F.plain_max_loop _,ih (j+1) _ _ _ (by omega) hlt (W.frame _ _ _ hst' fun b hbf o e=>?_) (.inr ⟨by omega,u,?_⟩) (Heap.get?_update_self _ hS' rfl) fun v' h'' tk'' hv' hk''=>?_⟩
        · exact (Heap.get?_update_other _ _ (fun h:S=b=>hSf (by rw [h]; exact hbf))).trans e
        · rw [em,mxI,if_pos hb]
        · exact hR v' h'' tk'' hv' fun b o hbw hbS e=>hk'' b o hbw hbS ((Heap.get?_update_other _ _ (Ne.symm hbS)).trans (hk' b o hbw e))
      · rw [decide_eq_false hb]
        simp only [Bool.false_eq_true,if_false]
        refine wpAny_bind (wpAny_letGo ?_)
        rw [hname]
        refine wpAny_pure ⟨plainId_quiet F.plain_max_loop _,ih (j+1) _ _ c (by omega) hlt hst' (.inr ⟨by omega,t,?_⟩) hS' fun v' h'' tk'' hv' hk''=>?_⟩
        · rw [em,mxI,if_neg hb]
        · exact hR v' h'' tk'' hv' fun b o hbw hbS e=>hk'' b o hbw hbS (hk' b o hbw e)
end
theorem ints_get:∀ {ns:List Int} {us:List Value},Vals (ns.map V.int) us→∀ (i:Nat) (u:Value),us[i]?=some u→∃ x t,ns[i]?=some x∧u=.int x t
  | [],_,.nil,i,u,e=>by simp at e
  | n::ns,_,.cons r t,0,u,e=>by
    obtain ⟨tk,r⟩:=r
    simp at e
    exact ⟨n,tk,rfl,by rw [← e,r]⟩
  | n::ns,_,.cons r t,i+1,u,e=>by simpa using ints_get t i u (by simpa using e)
section
variable {X:Cx} {pins:List (Addr×Obj)} {σ:L2.St} {H:Hp} {s:Shared}
theorem run_maxD {p:Addr} {ns:List Int} {i:Int} {v:Value} {Q:VK} (hc:X.calm=true) (I:Inv X pins σ H s) (hq:SqL X.K H p (ns.map V.int)) (rv:RelV (.int i) v) (q:Q (.int (maxD ns i)) H) :
    wpAny (model X.prog X.w) X.A (call (.builtin "max") [.ref p] [(Str.ofString "default",v)]) (EP X pins σ Q) X.xe s:=by
  obtain ⟨its,r,pl,hz⟩:=I.list hq
  have hl:=pl.isList
  have lt:p<s.heap.objs.size:=by
    obtain ⟨o,e,_⟩:=hl
    exact Heap.lt_size e
  have na:∀ a,X.A.in1.handled=some (.ref a)→a≠s.heap.objs.size:=fun a ea=>by
    rcases I.hb hc with z | ⟨b,oe,vs,e1,e2,_⟩
    · rw [show X.A.in1.handled=X.A.handled from rfl,z] at ea; cases ea
    · rw [show X.A.in1.handled=X.A.handled from rfl,e1] at ea; cases ea; exact Nat.ne_of_lt (Heap.lt_size e2)
  have hname:(toString "max" ++ toString ".loop" : String) = "max.loop" := by decide
  refine call_treeKw F.kind_max F.plain_max F.entry_max (args_maxD _ _) ?_
  show wpAny _ X.A.in1 (Builtin.Builtins.bindParams "max" ["key", "default"] 0 ⟨[],[(Str.ofString "default",v)]⟩ >>= _) _ _ s
  refine wpAny_bind (wpAny_of_eq (show Builtin.Builtins.bindParams "max" ["key", "default"] 0 ⟨[],[(Str.ofString "default",v)]⟩=pure [none,some v] from rfl) ?_)
  refine wpAny_bind (wpAny_pure ?_)
  refine wpAny_bind (wpAny_pyIter_list hl ?_)
  refine wpAny_bind (wpAny_newObj_type ?_)
  have len:its.toArray.size=ns.length:=by rw [List.size_toArray,← r.length,List.length_map]
  have WL:=walks_list (prog:=X.prog) (w:=X.w) (A:=X.A.in1) s.heap.objs.size p (Nat.ne_of_lt lt) its.toArray na
  rw [len] at WL
  rw [hname]
  have hS0:((s.heap.push { cls:=.type "list_iterator",data:=.fields #[.ref p,.int 0 0] }).objs.size)∉s.heap.objs.size::p::hAdr X.A.in1:=by
    rw [Heap.size_push]
    intro z
    rcases List.mem_cons.mp z with z | z
    · exact Nat.succ_ne_self _ z
    · rcases List.mem_cons.mp z with z | z
      · rw [← z] at lt
        exact Nat.not_succ_lt_self lt
      · have ez:=mem_hAdr z
        rcases I.hb hc with q | ⟨b,oe,vs,e1,e2,_⟩
        · rw [show X.A.in1.handled=X.A.handled from rfl,q] at ez; cases ez
        · rw [show X.A.in1.handled=X.A.handled from rfl,e1] at ez
          cases ez
          exact Nat.not_succ_lt_self (Heap.lt_size e2)
  refine wpAny_pure ⟨plainId_quiet F.plain_max_loop _,max_loopD (d:=v) WL (fun j u e=>ints_get r j u (by simpa using e)) _ hS0 _ 0 _ #[] _ rfl (Nat.zero_le _) ?_ (.inl ⟨rfl,rfl⟩) (Heap.get?_push_size _ rfl) fun u h' tk hv hk=>?_⟩
  · exact ⟨⟨_,Heap.get?_push_of_some _ (Heap.get?_push_size _ rfl),rfl,rfl⟩,(hl.push _).push _,(I.hb hc).mono fun a o _ eo=>Heap.get?_push_of_some _ (Heap.get?_push_of_some _ eo)⟩
  · refine ⟨.int (maxD ns i),H,I.kept (h':=h') (t':=tk) fun b o eb=>hk b o (fun hm=>?_) (fun hm=>?_) (Heap.get?_push_of_some _ (Heap.get?_push_of_some _ eb)),?_,q⟩
    · rw [List.mem_singleton.mp hm] at eb
      exact Nat.lt_irrefl _ (Heap.lt_size eb)
    · have:=Heap.lt_size eb
      rw [hm,Heap.size_push] at this
      exact Nat.not_succ_lt_self this
    · rcases hv with ⟨rfl,rfl⟩ | ⟨hne,t,rfl⟩
      · exact rv
      · refine ⟨t,?_⟩
        cases ns with
        | nil=>exact absurd rfl hne
        | cons a r=>rfl
end
def tMaxD (K:PySem.W.Frag) (t tk:TA):TE:=fun σ H Q=>t σ H fun vs H1=>tk σ H1 fun zs H2=>∃ p ns i,vs=[.ref p]∧zs=[.int i]∧SqL K H2 p (ns.map V.int)∧Q (.int (maxD ns i)) H2
theorem pe_maxD {X:Cx} {e d:Expr} {t tk:TA} {p kp pos:Pos} (hm:X.mg "max" = none) (ha:PA X [e] t) (hk:PK X [⟨some (Str.ofString "default"),d,kp⟩] tk) (hc:X.calm=true:=by rfl) (hg:Gl X "max" := by rfl)
    (he:starEach [e] X.env=[(false,eval e X.env)]:=by rfl):PE X (.Call (.Name "max" p) [e] [⟨some (Str.ofString "default"),d,kp⟩] pos) (tMaxD X.K t tk):=by
  intro pins s σ H Q I h
  refine wpAny_Call_Name_kw (ld_blt I hg hm bt_max ?_)
  refine callWith_kw (thn (ha pos pins s σ H _ I h) fun us s1 ⟨vs,H1,I1,r1,q1⟩=>thn (hk pos pins s1 σ H1 _ I1 q1) fun ws s2 ⟨zs,H2,I2,r2,q2⟩=>?_) (by rw [he]; rfl) (by rw [he]; rfl)
  obtain ⟨p,ns,i,rfl,rfl,hq,q⟩:=q2
  obtain ⟨u,rfl,ru⟩:=r1.one
  cases ru
  obtain ⟨v,rfl,rv⟩:=r2.one
  exact run_maxD hc I2 hq rv q
end L3
end
section
namespace L3
open PySem PySem.Spec PyProof.Rows L2
theorem same_upd {H H2:Hp} {p:Addr} {o:HO} (h:Same H H2) (hp:H p=none):Same H (upd H2 p o):=fun b u q=>by rw [upd_ne (ne_of_none q hp)]; exact h b u q
theorem comp_opt {J:It} {p:Addr} {H1:Hp} {g:TG} {tt:TT} {te:TE} {b:L2.St} {C:Hp→Prop} (n:Nat) (f:Nat→Option V) (hp:H1 p=none) (hn:n≤sizeLine)
    (hgo:∀ i H2,i<n→Same H1 H2→J.go i H2∧∀ x H3,J.yld i H2 x H3→∀ (R:V→Hp→Prop) (R0:Hp→Prop),(∀ v H6,f i=some v→Same H2 H6→R v H6)→(∀ H5,f i=none→Same H2 H5→R0 H5) →
      g x b H3 fun σ4 H4=>tt σ4 H4 fun ok H5=>if ok=true then te σ4 H5 R else R0 H5)
    (hd:∀ H2,Same H1 H2→H2 p=some (.lst ((List.range n).filterMap f))→J.stop n H2∧C H2) :
    ∃ W:Nat→Nat→List V→Hp→Prop,(∃ m,W 0 m [] (upd H1 p (.lst [])))∧∀ i m acc H2,W i m acc H2→(J.stop i H2∧C H2)∨(J.go i H2∧∀ x H3,J.yld i H2 x H3→g x b H3 fun σ4 H4=>tt σ4 H4 fun ok H5 =>
      if ok=true then te σ4 H5 fun v H6=>H6 p=some (.lst acc)∧acc.length<sizeLine∧∃ m',m'<m∧W (i+1) m' (acc++[v]) (upd H6 p (.lst (acc++[v]))) else ∃ m',m'<m∧W (i+1) m' acc H5):=by
  refine comp_by (Q:=fun _ H=>C H) n (fun i acc H2=>acc=(List.range i).filterMap f∧H2 p=some (.lst acc)∧Same H1 H2) ⟨rfl,upd_same,same_new hp _⟩ ?_ ?_
  · rintro i acc H2 hi ⟨rfl,h2,s2⟩
    obtain ⟨g1,g2⟩:=hgo i H2 hi s2
    have lng:((List.range i).filterMap f).length<sizeLine:=by
      have:=List.length_filterMap_le f (List.range i)
      rw [List.length_range] at this
      omega
    refine ⟨g1,fun x H3 y=>g2 x H3 y _ _ (fun v H6 e s6=>⟨s6 _ _ h2,lng,nx hi ⟨?_,upd_same,same_upd (s2.trans s6) hp⟩⟩) fun H5 e s5=>nx hi ⟨?_,s5 _ _ h2,s2.trans s5⟩⟩
    · rw [List.range_succ,List.filterMap_append]; simp [e]
    · rw [List.range_succ,List.filterMap_append]; simp [e]
  · rintro acc H2 ⟨rfl,h2,s2⟩
    exact hd H2 s2 h2
theorem comp_vals {J:It} {p:Addr} {H1:Hp} {g:TG} {te:TE} {b:L2.St} {C:Hp→Prop} (n:Nat) (f:Nat→V) (hp:H1 p=none) (hn:n≤sizeLine)
    (hgo:∀ i H2,i<n→Same H1 H2→J.go i H2∧∀ x H3,J.yld i H2 x H3→∀ (R:V→Hp→Prop),(∀ H6,Same H2 H6→R (f i) H6)→g x b H3 fun σ4 H4=>te σ4 H4 R)
    (hd:∀ H2,Same H1 H2→H2 p=some (.lst ((List.range n).map f))→J.stop n H2∧C H2) :
    ∃ W:Nat→Nat→List V→Hp→Prop,(∃ m,W 0 m [] (upd H1 p (.lst [])))∧∀ i m acc H2,W i m acc H2→(J.stop i H2∧C H2)∨(J.go i H2∧∀ x H3,J.yld i H2 x H3→g x b H3 fun σ4 H4=>tYes σ4 H4 fun ok H5 =>
      if ok=true then te σ4 H5 fun v H6=>H6 p=some (.lst acc)∧acc.length<sizeLine∧∃ m',m'<m∧W (i+1) m' (acc++[v]) (upd H6 p (.lst (acc++[v]))) else ∃ m',m'<m∧W (i+1) m' acc H5):=by
  refine comp_by (Q:=fun _ H=>C H) n (fun i acc H2=>acc=(List.range i).map f∧H2 p=some (.lst acc)∧Same H1 H2) ⟨rfl,upd_same,same_new hp _⟩ ?_ ?_
  · rintro i acc H2 hi ⟨rfl,h2,s2⟩
    obtain ⟨g1,g2⟩:=hgo i H2 hi s2
    refine ⟨g1,fun x H3 y=>?_⟩
    simp only [tYes,if_true]
    refine g2 x H3 y _ fun H6 s6=>⟨s6 _ _ h2,by rw [List.length_map,List.length_range]; omega,nx hi ⟨?_,upd_same,same_upd (s2.trans s6) hp⟩⟩
    rw [List.range_succ,List.map_append]; rfl
  · rintro acc H2 ⟨rfl,h2,s2⟩
    exact hd H2 s2 h2
end L3
end
section
namespace HT
open PySem PyProof.Rows
section
open PySem.SeqAt
open PySem.AutoSeq1 (wpAny_loadPart')
open PySem.MeetsSeq PySem.MeetsSeq2 PySem.MeetsSeq3
variable {prog:Program} {w:World} {A:Around} {E:Value→Shared→Prop} {s:Shared}
theorem getItem_tuple_whole {t sl:Addr} {items:Array Value} {vl vu:Value} {lo hi:Option Int} {Q:Value→Shared→Prop} (ht:IsTup s.heap t items) (hs:s.heap.IsSliceOf sl vl vu .none) (pl:IsPart vl lo) (pu:IsPart vu hi)
    (h1:sIx items.size 0 lo=0) (h2:sIx items.size items.size hi=items.size) (h:Q (.ref t) s):wpAny (model prog w) A (getItem (.ref t) (.ref sl)) Q E s:=by
  obtain ⟨os,hos,hcs,hds⟩:=id hs
  have hTs:s.TypeIs (.ref sl) "slice" := ⟨os,hos,hcs⟩
  unfold getItem
  try with_reducible refine wpAny_holding ?_
  first | refine wpAny_bind (wpAny_pure ?_) | skip
  refine wpAny_bind (wpAny_sequenceKey ht.typeIs (by decide) ?_)
  refine wpAny_bind (wpAny_callSpecial?_slot (name:=Str.ofString "__getitem__") ht.typeIs PyProof.Rows.slot_tuple_getitem
    (wpAny_call_entry PyProof.Rows.slot_tuple_getitem ht.typeIs entry_tuple_getitem ?_ (args_tuple_getitem _ _)))
  show wpAny _ _ (Builtin.Tuple.tupleItemsOf (.ref t) >>= _) _ _ s
  refine wpAny_bind (tupleItemsOf_ ht ?_)
  refine wpAny_bind (wpAny_typeOf hTs ?_)
  rw [if_pos (by decide)]
  refine wpAny_bind (sliceApplied_gen hs pl pu ?_)
  have hyes:(((sIx items.size 0 lo:Nat):Int)==0 && (1:Int)==1 && (sIx items.size items.size hi-sIx items.size 0 lo)==items.size)=true:=by
    rw [h1,h2]; simp
  show wpAny _ _ (if (((sIx items.size 0 lo:Nat):Int)==0 && (1:Int)==1 && (sIx items.size items.size hi-sIx items.size 0 lo)==items.size)=true then _ else _) _ _ s
  rw [if_pos hyes]
  show wpAny _ _ (Builtin.Tuple.tupleIsExact (.ref t) >>= _) _ _ s
  refine wpAny_bind ?_
  unfold Builtin.Tuple.tupleIsExact
  refine wpAny_bind (wpAny_typeOf ht.typeIs (wpAny_pure ?_))
  rw [if_pos (by decide)]
  exact wpAny_bind (wpAny_rule (wpAny_pure ⟨_,rfl,wpAny_pure h⟩))
end
end HT
namespace L3
open PySem PySem.Spec PyProof.Rows L2
def rSlW (K:PySem.W.Frag):V→Option Int→Option Int→Hp→VK→Prop:=fun x lo hi H Q=>∃ a xs,x=.ref a∧SqT K H a xs∧(∀ p,H p=none→Q (.ref p) (upd H p (.tup (cutV xs lo hi))))∧(cutV xs lo hi=xs→Q (.ref a) H)
theorem sl_tupW {X:Cx}:SlR X (rSlW X.K):=by
  intro pins s σ H x v vl vu lo hi sl Q I rx hs pl pu h
  obtain ⟨a,xs,rfl,hx,q1,q2⟩:=h
  by_cases hw:HT.sIx xs.length 0 lo=0∧HT.sIx xs.length xs.length hi=xs.length
  · cases rx
    obtain ⟨its,r,ht,hz⟩:=I.tuple hx
    have hlen:its.toArray.size=xs.length:=by rw [List.size_toArray]; exact r.length.symm
    refine ⟨"tuple",_,PyProof.Rows.slot_tuple_getitem.lookup,ht.typeIs,?_⟩
    refine HT.getItem_tuple_whole ht hs pl pu (by rw [hlen]; exact hw.1) (by rw [hlen]; exact hw.2) ⟨.ref a,H,I,rfl,q2 ?_⟩
    unfold cutV
    rw [hw.1,hw.2,List.drop_zero,Nat.sub_zero,List.take_length]
  · exact sl_tup pins s σ H _ v vl vu lo hi sl Q I rx hs pl pu ⟨a,xs,rfl,hx,hw,q1⟩
theorem cutV_from (xs:List V) (k:Nat):cutV xs (some (k:Int)) none=xs.drop k:=by
  unfold cutV
  rw [HT.sIx_none,HT.sIx_nat]
  by_cases h:k≤xs.length
  · rw [Nat.min_eq_left h]
    exact List.take_of_length_le (by rw [List.length_drop]; omega)
  · rw [Nat.min_eq_right (by omega),List.drop_eq_nil_of_le (Nat.le_refl _),List.drop_eq_nil_of_le (show xs.length≤k by omega)]
    simp
end L3
end
section
namespace L3
open PySem PySem.Spec PyProof.Rows L2
section
variable {X:Cx} {K:PySem.W.Frag}
theorem call_isinstK (hK:X.K=K:=by rfl):CallR X (.builtin "isinstance") (fun xs H Q=>∃ x t n b,xs=[x,.ty n]∧TyOf K H x t∧PySem.W.kitOne K t (.type n)=some b∧Q (.bl b) H):=by subst hK; exact call_isinst
end
end L3
end
section
namespace L3
open PySem PySem.Spec PyProof.Rows L2
theorem op_repS {X:Cx}:OpR X (binaryOp .Mult) (fun x y H Q=>∃ z n,x=.str z∧y=.int n∧MulOk z n∧Q (.str (Txt.mul z n)) H):=by
  intro pins s σ H x y v u Q I rx ry h
  obtain ⟨z,n,rfl,rfl,hm,q⟩:=h
  obtain ⟨t,rfl⟩:=rx
  obtain ⟨t',rfl⟩:=ry
  exact SB.mul hm fun t' k=>⟨.str (Txt.mul z n),H,I.tok k,⟨t',rfl⟩,q⟩
def maxN:List Nat→Nat
  | []=>0
  | a::r=>max a (maxN r)
end L3
end
section
namespace L3
open PySem PySem.Spec L2
variable {K:PySem.W.Frag}
def SqK (K:PySem.W.Frag) (a:Addr) (xs:List V):Prop:=∃ (o:Obj) (its:Array Value) (n:Nat),K.lookup a=some o∧o.cls=.type "tuple" ∧ o.data=.seq its n∧its.size≤sizeLine∧Vals xs its.toList
structure KD (K:PySem.W.Frag) (a:Addr) (rows:List (Str×List V)) (as:List Addr):Prop where
  len:as.length=rows.length
  tab:TabK K a ((rows.zip as).map fun p=>(p.1.1,V.ref p.2))
  sq:∀ p∈rows.zip as,SqK K p.2 p.1.2
theorem datum_zip {α β:Type} {x:Str} (f:(Str×α)×β→V):∀ (rows:List (Str×α)) (as:List β),as.length=rows.length →
    (∃ r a,(r,a)∈rows.zip as∧r.1=x∧rows.lookup x=some r.2∧PyProof.Rows.KTD.datumAt x ((rows.zip as).map fun p=>(p.1.1,f p))=some (f (r,a))) ∨
    (rows.lookup x=none∧PyProof.Rows.KTD.datumAt x ((rows.zip as).map fun p=>(p.1.1,f p))=none)
  | [],_,_=>.inr ⟨rfl,rfl⟩
  | (k,v)::rows,[],h=>by simp at h
  | (k,v)::rows,a::as,h=>by
    have ih:=datum_zip (x:=x) f rows as (by simpa using h)
    by_cases e:x=k
    · subst e
      exact .inl ⟨(x,v),a,List.mem_cons_self,rfl,by simp [List.lookup],by simp [PyProof.Rows.KTD.datumAt]⟩
    · have e1:(x==k)=false:=by simpa using e
      have e2:¬ k=x:=fun z=>e z.symm
      rcases ih with ⟨r,b,h1,h2,h3,h4⟩ | ⟨h1,h2⟩
      · exact .inl ⟨r,b,List.mem_cons_of_mem _ h1,h2,by rw [List.lookup_cons,e1]; exact h3,by simp only [List.zip_cons_cons,List.map_cons,PyProof.Rows.KTD.datumAt,e,decide_false,Bool.false_eq_true,if_false]; exact h4⟩
      · exact .inr ⟨by rw [List.lookup_cons,e1]; exact h1,by simp only [List.zip_cons_cons,List.map_cons,PyProof.Rows.KTD.datumAt,e,decide_false,Bool.false_eq_true,if_false]; exact h2⟩
theorem KD.some {a:Addr} {rows:List (Str×List V)} {as:List Addr} (T:KD K a rows as) {x:Str} {ds:List V} (h:rows.lookup x=Option.some ds):∃ b,PyProof.Rows.KTD.datumAt x ((rows.zip as).map fun p=>(p.1.1,V.ref p.2))=Option.some (.ref b)∧∀ H,SqT K H b ds:=by
  rcases datum_zip (x:=x) (fun p=>V.ref p.2) rows as T.len with ⟨r,b,h1,h2,h3,h4⟩ | ⟨h1,_⟩
  · rw [h] at h3
    cases h3
    exact ⟨b,h4,fun H=>.inr (T.sq _ h1)⟩
  · rw [h] at h1; cases h1
theorem KD.inT {a:Addr} {rows:List (Str×List V)} {as:List Addr} (T:KD K a rows as) (x:Str):L3.inT x ((rows.zip as).map fun p=>(p.1.1,V.ref p.2))=(rows.lookup x).isSome:=by
  unfold L3.inT
  rcases datum_zip (x:=x) (fun p=>V.ref p.2) rows as T.len with ⟨r,b,h1,h2,h3,h4⟩ | ⟨h1,h2⟩
  · rw [h3,h4]; rfl
  · rw [h1,h2]; rfl
def valsChk:List V→List Value→Bool
  | [],[]=>true
  | .str x::vs,.str y _::us=>decide (x=y) && valsChk vs us
  | .int i::vs,.int j _::us=>decide (i=j) && valsChk vs us
  | _,_=>false
theorem valsChk_ok:∀ {vs:List V} {us:List Value},valsChk vs us=true→Vals vs us
  | [],[],_=>.nil
  | .str x::vs,.str y t::us,h=>by
    simp only [valsChk,Bool.and_eq_true,decide_eq_true_eq] at h
    obtain ⟨rfl,h⟩:=h
    exact .cons ⟨t,rfl⟩ (valsChk_ok h)
  | .int x::vs,.int y t::us,h=>by
    simp only [valsChk,Bool.and_eq_true,decide_eq_true_eq] at h
    obtain ⟨rfl,h⟩:=h
    exact .cons ⟨t,rfl⟩ (valsChk_ok h)
  | [],_::_,h=>by simp [valsChk] at h
  | _::_,[],h=>by simp [valsChk] at h
  | .non::_,_::_,h=>by simp [valsChk] at h
  | .bl _::_,_::_,h=>by simp [valsChk] at h
  | .byt _::_,_::_,h=>by simp [valsChk] at h
  | .flt _::_,_::_,h=>by simp [valsChk] at h
  | .ref _::_,_::_,h=>by simp [valsChk] at h
  | .ty _::_,_::_,h=>by simp [valsChk] at h
  | .str _::_,.none::_,h=>by simp [valsChk] at h
  | .str _::_,.int _ _::_,h=>by simp [valsChk] at h
  | .str _::_,.ref _::_,h=>by simp [valsChk] at h
  | .str _::_,.bool _::_,h=>by simp [valsChk] at h
  | .str _::_,.float _ _::_,h=>by simp [valsChk] at h
  | .str _::_,.bytes _ _::_,h=>by simp [valsChk] at h
  | .str _::_,.type _::_,h=>by simp [valsChk] at h
  | .str _::_,.builtin _::_,h=>by simp [valsChk] at h
  | .str _::_,.ellipsis::_,h=>by simp [valsChk] at h
  | .str _::_,.notImplemented::_,h=>by simp [valsChk] at h
  | .int _::_,.none::_,h=>by simp [valsChk] at h
  | .int _::_,.str _ _::_,h=>by simp [valsChk] at h
  | .int _::_,.ref _::_,h=>by simp [valsChk] at h
  | .int _::_,.bool _::_,h=>by simp [valsChk] at h
  | .int _::_,.float _ _::_,h=>by simp [valsChk] at h
  | .int _::_,.bytes _ _::_,h=>by simp [valsChk] at h
  | .int _::_,.type _::_,h=>by simp [valsChk] at h
  | .int _::_,.builtin _::_,h=>by simp [valsChk] at h
  | .int _::_,.ellipsis::_,h=>by simp [valsChk] at h
  | .int _::_,.notImplemented::_,h=>by simp [valsChk] at h
def seqChk (vs:List V) (its:Array Value):Bool:=valsChk vs its.toList && decide (its.size≤100)
theorem sqk_mk {K:PySem.W.Frag} {a:Addr} {d:Option Addr} {its:Array Value} {n:Nat} {sl:Array (Option Value)} {vs:List V} (h:K.lookup a=some ⟨.type "tuple",d,.seq its n,sl⟩) (c:seqChk vs its=true):SqK K a vs:=by
  simp only [seqChk,Bool.and_eq_true,decide_eq_true_eq] at c
  exact ⟨_,its,n,h,rfl,rfl,Nat.le_trans c.2 (by decide),valsChk_ok c.1⟩
def rowsChk : List DictEntry → List Str → Bool
  | [],[]=>true
  | e::es,k::ks=>(match e.key,e.val with
    | .str x _,.ref _=>decide (x=k)
    | _,_=>false) && rowsChk es ks
  | _,_=>false
def refsOf (es:List DictEntry):List Addr:=es.map fun e=>match e.val with
  | .ref a=>a
  | _=>0
theorem rows_of : ∀ {es : List DictEntry} {ks : List Str}, rowsChk es ks = true → PyProof.Rows.KTD.Rows RelV es ((ks.zip (refsOf es)).map fun p => (p.1, V.ref p.2))
  | [],[],_=>.nil
  | [],_::_,h=>by simp [rowsChk] at h
  | _::_,[],h=>by simp [rowsChk] at h
  | e :: es, k :: ks, h => by
    obtain ⟨hs,key,val⟩:=e
    rw [rowsChk,Bool.and_eq_true] at h
    cases key with
    | str x t =>
      cases val with
      | ref b =>
        have h1:x=k:=by simpa using h.1
        subst h1
        exact .cons rfl rfl (rows_of h.2)
      | _=>simp at h
    | _=>simp at h
theorem kd_mk {a:Addr} {es:Array DictEntry} {ep:Nat} {rows:List (Str×List V)} {as:List Addr} (sy:(a==sysModules)=false) (lk:K.lookup a=some ⟨.type "dict",none,.dict es ep,#[]⟩) (ks:rowsChk es.toList (rows.map (·.1))=true)
    (rf:refsOf es.toList=as) (hl:as.length=rows.length) (sq:∀ p∈rows.zip as,SqK K p.2 p.1.2):KD K a rows as:=by
  refine ⟨hl,⟨sy,_,es,ep,lk,⟨rfl,rfl,rfl⟩,rfl,?_⟩,sq⟩
  have h:=rows_of ks
  rw [rf,List.zip_map_left,List.map_map] at h
  exact h
theorem sq_cons {r:Str×List V} {b:Addr} {rows:List (Str×List V)} {as:List Addr} (h:SqK K b r.2) (t:∀ p∈rows.zip as,SqK K p.2 p.1.2):∀ p∈(r::rows).zip (b::as),SqK K p.2 p.1.2:=fun p hp=>by
  rcases List.mem_cons.mp hp with rfl | hp
  · exact h
  · exact t p hp
theorem sq_nil:∀ p∈([]:List (Str×List V)).zip ([]:List Addr),SqK K p.2 p.1.2:=fun p hp=>by simp at hp
def intRows : List DictEntry → List (Str × Int) → Bool
  | [],[]=>true
  | e::es,(k,i)::ks=>(match e.key,e.val with
    | .str x _,.int j _=>decide (x=k) && decide (j=i)
    | _,_=>false) && intRows es ks
  | _,_=>false
theorem introws_of : ∀ {es : List DictEntry} {ks : List (Str × Int)}, intRows es ks = true → PyProof.Rows.KTD.Rows RelV es (ks.map fun p => (p.1, V.int p.2))
  | [],[],_=>.nil
  | [],_::_,h=>by simp [intRows] at h
  | _::_,[],h=>by simp [intRows] at h
  | e :: es, (k, i) :: ks, h => by
    obtain ⟨hs,key,val⟩:=e
    rw [intRows,Bool.and_eq_true] at h
    cases key with
    | str x t =>
      cases val with
      | int b u =>
        have h1:x=k∧b=i:=by simpa using h.1
        obtain ⟨rfl,rfl⟩:=h1
        exact .cons rfl ⟨u,rfl⟩ (introws_of h.2)
      | _=>simp at h
    | _=>simp at h
theorem tabi_mk {a:Addr} {es:Array DictEntry} {ep:Nat} {rows:List (Str×Int)} (sy:(a==sysModules)=false) (lk:K.lookup a=some ⟨.type "dict",none,.dict es ep,#[]⟩) (ks:intRows es.toList rows=true):TabK K a (rows.map fun p=>(p.1,V.int p.2)) :=
  ⟨sy,_,es,ep,lk,⟨rfl,rfl,rfl⟩,rfl,introws_of ks⟩
end L3
end
section
namespace L3
open PySem PySem.Spec PyProof.Rows L2
structure MadeX (h h':Heap) (e C:Addr) (hh:Option Value):Prop where
  keeps:∀ b o,h.get? b=some o→h'.get? b=some o
  new:h.get? e=none
  there:∃ oe vs t c,h'.get? e=some oe∧oe.cls=.ref C∧oe.data=.fields vs∧vs[0]?=some (.ref t)∧vs[1]?=some .none∧vs[2]?=some c∧(hh=none→c=.none)
section
variable {prog:Program} {w:World} {A:Around} {E:Value→Shared→Prop} {s:Shared}
theorem raise_new {α:Type} {Q:α→Shared→Prop} {h₀:Heap} {e C:Addr} {vs:List Value} (hb:HB h₀ A) (hm:Heap.MadeExcOf h₀ s.heap e (.ref C) vs) (hE:∀ h',MadeX h₀ h' e C A.handled→E (.ref e) { s with heap:=h' }) :
    wpAny (model prog w) A (raiseNew (.ref e):Sem α) Q E s:=by
  obtain ⟨t,he,_,_⟩:=hm.there
  simp only [raiseNew]
  refine wpAny_bind (wpAny_handled ?_)
  rcases hb with hb | ⟨a,oe,ws,hb,e1,e2,e3⟩
  · rw [hb]
    refine wpAny_bind (wpAny_pure (wpAny_throw (hE s.heap ⟨hm.keeps,hm.new,_,_,t,_,he,rfl,rfl,rfl,rfl,rfl,fun _=>rfl⟩)))
  · rw [hb]
    have ne:a≠e:=fun z=>by rw [z,hm.new] at e1; cases e1
    dsimp only
    rw [if_pos (by simpa using ne)]
    refine wpAny_bind (wpAny_holding (un_chain (hm.keeps _ _ e1) e2 e3 ?_))
    refine wpAny_bind ?_
    show wpAny (model prog w) A (setField (.ref e) 2 (.ref a)) _ _ _
    refine wpAny_setField he rfl (by simp) (wpAny_throw (hE _ ⟨fun b o eb=>?_,hm.new,_,_,t,.ref a,Heap.get?_update_self _ he (Obj.isFreed_of_fields (Obj.data_mapFields rfl _)),Obj.cls_mapFields _ _,Obj.data_mapFields rfl _,by simp,by simp,by simp,fun z=>by rw [hb] at z; cases z⟩))
    rw [Heap.get?_update_other _ _ fun z=>by rw [← z,hm.new] at eb; cases eb]
    exact hm.keeps b o eb
end
def ExcK (K:PySem.W.Frag) (C:Addr):Prop:=∃ bmB newId initId,ExcBaseFacts "ValueError" newId initId bmB∧PySem.W.excIn K C bmB newId=true
theorem excK_obj {K:PySem.W.Frag} {h:Heap} {C:Addr} {bmB:List Value} {newId:String} (X:K.In h) (q:PySem.W.excIn K C bmB newId=true) :
    ∃ bm N nm qn bs hdct sn sub ab col dd k0 k1 k2 k3 k5 mN,h.get? C=some (excClassObj nm qn C N bs bm hdct sn sub ab col dd k0 k1 k2 k3 k5 newId)∧h.Ns N mN∧mN "__init__" = none∧OwnTail h bmB bm:=by
  unfold PySem.W.excIn at q
  split at q
  · rename_i dd cd sl ho
    split at q
    · rename_i C' bm k0 k1 k2 k3 n k5 hm hs
      simp only [Bool.and_eq_true,beq_iff_eq,Bool.not_eq_true'] at q
      obtain ⟨⟨⟨⟨⟨rfl,rfl⟩,hdel⟩,ht⟩,hok⟩,hni⟩:=q
      obtain ⟨nm,bs,mro,ns,qn,hd,sn,sub,ab,col,del⟩:=cd
      dsimp only at hm hdel hok hni
      subst hm hdel
      have hsl:sl=#[k0,k1,k2,k3,some (.builtin n),k5]:=by
        obtain ⟨l⟩:=sl
        simp only at hs
        rw [hs]
      subst hsl
      exact ⟨bm,ns,nm,qn,bs,hd,sn,sub,ab,col,dd,k0,k1,k2,k3,k5,_,X _ _ ho,.of_isNs (PySem.W.isNs_of_in X hok),PySem.W.nsMap_none_of_in X hok hni,PySem.W.tail_of_in X ht⟩
    · cases q
  · cases q
def tRaise (G:Hp→Prop) (t:TA):TS:=fun D σ H=>t σ H fun vs H1=>vs.length≤100∧G H1
theorem ps_raise {X:Cx} {G:Hp→Prop} {x:Str} {C:Addr} {e₀:Expr} {t:TA} {np cpos pos:Pos} (hK:ExcK X.K C) (hm:X.mg x=some (.ref C)) (ha:PA X [e₀] t)
    (hxe:∀ pins σ H s e h',Inv X pins σ H s→MadeX s.heap h' e C X.A.handled→G H→X.xe (.ref e) { s with heap:=h' }) (hc:X.calm=true:=by rfl) (hg:Gl X x:=by rfl) (hdb:(x==("__debug__" : Str))=false:=by decide)
    (he:starEach [e₀] X.env=[(false,eval e₀ X.env)]:=by rfl):PS X (.Raise (some (.Call (.Name x np) [e₀] [] cpos)) none pos) (tRaise G t):=by
  intro pins s σ H D I h
  obtain ⟨bmB,newId,initId,FB,q⟩:=hK
  have key:wpAny (model X.prog X.w) X.A (eval (.Call (.Name x np) [e₀] [] cpos) X.env) (fun v s₁=>∃ e t h₀ vs,v=.ref e∧X.K.In s₁.heap ∧
      s₁.heap.get? e=some { cls:=.ref C,data:=.fields #[.ref t,.none,.none,.none,.bool false,.none] }∧HB h₀ X.A∧Heap.MadeExcOf h₀ s₁.heap e (.ref C) vs∧∀ h',MadeX h₀ h' e C X.A.handled→X.xe (.ref e) { s₁ with heap:=h' }) X.xe s:=by
    refine wpAny_Call_Name_kw (ld_glob I hg hm ?_ hdb)
    have hpa:=ha cpos pins s σ H _ I h
    rw [he] at hpa ⊢
    unfold callWith
    refine wpAny_bind (wpAny_holding (Calls.evalArgs_plain (thn hpa fun us s1 ⟨vs,H1,I1,r,hl,g⟩=>wpAny_bind (wpAny_standAt ?_))))
    obtain ⟨bm,N,nm,qn,bs,hdct,sn,sub,ab,col,dd,k0,k1,k2,k3,k5,mN,hC,hN,hni,T⟩:=excK_obj I1.kIn q
    have hb:=I1.hb hc
    have hx:=hxe pins σ H1 s1
    have kin:=I1.kIn
    obtain ⟨hp,gn,d,tk,os⟩:=s1
    show wpAny _ _ (keeperOf (.ref C) >>= _) _ _ _
    refine wpAny_bind (wpAny_keeperOf_exc hC ?_)
    refine wpAny_bind (wpAny_call_exc_subT (hrest:=by rw [List.nil_append,← r.length]; exact Nat.le_trans hl (by decide)) FB T hC hN hni fun h' e hm'=>wpAny_bind (wpAny_holding (wpAny_point (wpAny_pure ?_))))
    obtain ⟨t,ht,_,_⟩:=hm'.there
    exact ⟨e,t,hp,_,rfl,kin.keeps hm'.keeps,ht,hb,hm',fun h'' mx=>hx e h'' I1 mx g⟩
  rw [arm_exec_Raise]
  refine wpAny_bind (wpAny_standAt ?_)
  unfold raiseStmt
  refine wpAny_bind (wpAny_bind (thn key fun v s₁ h₁=>wpAny_bind (wpAny_standAt (wpAny_pure ?_))))
  obtain ⟨e,t,h₀,vs,rfl,kin,he',hb,hm',hE⟩:=h₁
  obtain ⟨bm,N,nm,qn,bs,hdct,sn,sub,ab,col,dd,k0,k1,k2,k3,k5,mN,hC,hN,hni,T⟩:=excK_obj kin q
  have hcB:(Value.ref C::bm).contains (.type "BaseException")=true:=by rw [List.contains_cons,T.hasType FB.hasBase,Bool.or_true]
  obtain ⟨hp,gn,d,tk,os⟩:=s₁
  repeat (first | with_reducible refine wpAny_loadPart_at he' ?_ | with_reducible refine wpAny_loadPart_at hC ?_ | (with_reducible refine wpAny_isSubtype_exc hC ?_; rw [hcB]) | wp_step)
  exact raise_new hb hm' hE
end L3
end
section
namespace L3
open PySem PySem.Spec PyProof.Rows L2
def Ex (h:Heap) (a C:Addr) (T c:Value):Prop:=∃ oe vs a0,h.get? a=some oe∧oe.cls=.ref C∧oe.data=.fields vs∧vs[0]?=some a0∧vs[1]?=some T∧vs[2]?=some c
def Tb (h:Heap) (T:Addr) (fl:Value):Prop:=∃ oT ts,h.get? T=some oT∧oT.data=.fields ts∧ts[3]?=some fl
structure Stp (fs:List Addr) (xs:List Addr) (h h':Heap):Prop where
  keep:∀ b o,h.get? b=some o→b∉fs→b∉xs→h'.get? b=some o
  slot:∀ b o,h.get? b=some o→b∈fs→b∉xs→∃ sl,h'.get? b=some { o with slots:=sl }
section
variable {M:Model} {A:Around} {E:Value→Shared→Prop} {s:Shared}
theorem fs_ne {base:Heap} {l:List Env} {b:Addr} {o:Obj} {vs:Array Value} (hl:s.heap.FunFrames base l) (e:s.heap.get? b=some o) (d:o.data=.fields vs):b∉frs l:=fun hm=>by
  obtain ⟨_,o',ho,nf⟩:=hl.mem hm
  rw [e] at ho
  cases ho
  exact nf vs d
theorem entry_new {base:Heap} {env:Env} {outer:List Env} {L a C:Addr} {head T c:Value} {hadNext:Bool} {Q:Unit→Shared→Prop} (hfr:A.frames=some (env::outer)) (hl:s.heap.FunFrames base (env::outer)) (hf:env.frame=some L) (x:Ex s.heap a C T c)
    (h:∀ h' T',Ex h' a C (.ref T') c→Tb h' T' (rawInt L)→s.heap.get? T'=none→T'≠a→Stp (frs (env::outer)) [a] s.heap h'→Q () { s with heap:=h' }) :
    wpAny M A (do let f ← frameOf env; let pl ← entryPlaceOf L hadNext; let b ← EntryCells.newEntry head f .none (rawInt L) .none pl; setField (.ref a) 1 b) Q E s:=by
  obtain ⟨oe,vs,a0,he,hc,hd,h0,h1,h2⟩:=x
  have hne:a∉frs (env::outer):=fs_ne hl he hd
  refine wpAny_bind (wpAny_frameOf_fun hfr hl hf fun k1 hs=>wpAny_bind (wpAny_entryPlaceOf fun pl hpl=>?_))
  unfold EntryCells.newEntry newFields
  refine wpAny_bind (wpAny_newObj_type ?_ (hpl.sizeOk5 _ _ _ _ _))
  have he1:k1.get? a=some oe:=(hs.2.1 a hne).trans he
  have sz:k1.objs.size=s.heap.objs.size:=hs.1
  have nT:k1.objs.size≠a:=Nat.ne_of_gt (Heap.lt_size he1)
  refine wpAny_setField (Heap.get?_push_of_some _ he1) hd (Array.getElem?_eq_some_iff.mp h1).1 (h _ k1.objs.size ?_ ?_ ?_ nT ?_)
  · refine ⟨_,_,a0,Heap.get?_update_self _ (Heap.get?_push_of_some _ he1) (Obj.isFreed_of_fields (Obj.data_mapFields hd _)),(Obj.cls_mapFields _ _).trans hc,Obj.data_mapFields hd _,?_,?_,?_⟩
    · rw [Array.getElem?_setIfInBounds_ne (by decide)]; exact h0
    · have:=(Array.getElem?_eq_some_iff.mp h1).1
      simp [this]
    · rw [Array.getElem?_setIfInBounds_ne (by decide)]; exact h2
  · refine ⟨_,_,(Heap.get?_update_other _ _ (Ne.symm nT)).trans (Heap.get?_push_size _ rfl),rfl,?_⟩
    first | (simp; done) | (rcases hpl with rfl | ⟨_,_,_,_,_,_,_,rfl⟩ <;> simp)
  · rw [sz]
    exact Heap.get?_none_of_le (Nat.le_refl _)
  · refine ⟨fun b o e n m=>?_,fun b o e n m=>?_⟩
    · have e1:k1.get? b=some o:=(hs.2.1 b n).trans e
      rw [Heap.get?_update_other _ _ fun z=>m (by simp [z])]
      exact Heap.get?_push_of_some _ e1
    · obtain ⟨sl,e1⟩:=hs.2.2 b o e
      refine ⟨sl,?_⟩
      rw [Heap.get?_update_other _ _ fun z=>m (by simp [z])]
      exact Heap.get?_push_of_some _ e1
theorem note_first {base:Heap} {env:Env} {outer:List Env} {L a C:Addr} {c:Value} {Q:Unit→Shared→Prop} (hfr:A.frames=some (env::outer)) (hl:s.heap.FunFrames base (env::outer)) (hf:env.frame=some L) (x:Ex s.heap a C .none c)
    (h:∀ h' T',Ex h' a C (.ref T') c→Tb h' T' (rawInt L)→s.heap.get? T'=none→T'≠a→Stp (frs (env::outer)) [a] s.heap h'→Q () { s with heap:=h' }):wpAny M A (noteFrame (.ref a) env) Q E s:=by
  obtain ⟨oe,vs,a0,he,hc,hd,h0,h1,h2⟩:=id x
  unfold noteFrame
  simp only [hf]
  refine wpAny_bind (wpAny_field he hd h1 ?_)
  rw [if_neg (by decide)]
  exact entry_new hfr hl hf x h
theorem note_next {base:Heap} {env:Env} {outer:List Env} {L a C T:Addr} {c:Value} {Q:Unit→Shared→Prop} (hfr:A.frames=some (env::outer)) (hl:s.heap.FunFrames base (env::outer)) (hf:env.frame=some L) (x:Ex s.heap a C (.ref T) c) (y:Tb s.heap T .none) (hTa:T≠a)
    (h:∀ h' T',Ex h' a C (.ref T') c→Tb h' T' (rawInt L)→s.heap.get? T'=none→T'≠a→Stp (frs (env::outer)) [a,T] s.heap h'→Q () { s with heap:=h' }):wpAny M A (noteFrame (.ref a) env) Q E s:=by
  obtain ⟨oe,vs,a0,he,hc,hd,h0,h1,h2⟩:=id x
  obtain ⟨oT,ts,hT,dT,h3⟩:=y
  unfold noteFrame
  simp only [hf]
  refine wpAny_bind (wpAny_field he hd h1 ?_)
  rw [if_pos (show (Value.ref T != Value.none)=true from by simp)]
  refine wpAny_bind (wpAny_field hT dT h3 ?_)
  rw [if_neg (show ¬ ((Value.none==rawInt L)=true) from by simp [rawInt])]
  refine wpAny_bind (wpAny_setField hT dT (Array.getElem?_eq_some_iff.mp h3).1 ?_)
  have oth:∀ b,b≠T→(s.heap.update T (Obj.mapFields (·.setIfInBounds 3 Value.none))).get? b=s.heap.get? b:=fun b hb=>Heap.get?_update_other _ _ (Ne.symm hb)
  have nr:∀ b o,s.heap.get? b=some o→(∀ vs,o.data≠.fields vs)→b≠T:=fun b o hb nf q=>by
    rw [q,hT] at hb
    cases hb
    exact nf ts dT
  refine entry_new (s:={ s with heap:=s.heap.update T (Obj.mapFields (·.setIfInBounds 3 Value.none)) }) hfr (hl.of_keeps fun b o hb nf=>⟨o,(oth b (nr b o hb nf)).trans hb,rfl⟩) hf ⟨oe,vs,a0,(oth a (Ne.symm hTa)).trans he,hc,hd,h0,h1,h2⟩ fun h' T' x1 x2 x3 x4 x5=>h h' T' x1 x2 ?_ x4 ⟨fun b o e n m=>?_,fun b o e n m=>?_⟩
  · by_cases z:T'=T
    · rw [z] at x3
      have:=Heap.get?_update_self (Obj.mapFields (·.setIfInBounds 3 Value.none)) hT (Obj.isFreed_of_fields (Obj.data_mapFields dT _))
      rw [x3] at this
      cases this
    · rw [← oth T' z]; exact x3
  · exact x5.keep b o ((oth b fun z=>m (by simp [z])).trans e) n fun z=>m (by simp at z; simp [z])
  · exact x5.slot b o ((oth b fun z=>m (by simp [z])).trans e) n fun z=>m (by simp at z; simp [z])
theorem flight_none {a C T:Addr} {c fl:Value} {Q:Unit→Shared→Prop} (x:Ex s.heap a C (.ref T) c) (y:Tb s.heap T fl) (hTa:T≠a)
    (h:∀ h',Ex h' a C (.ref T) c→Tb h' T .none→(∀ b,b≠T→h'.get? b=s.heap.get? b)→Q () { s with heap:=h' }):wpAny M A (setFlight (.ref a) none) Q E s:=by
  obtain ⟨oe,vs,a0,he,hc,hd,h0,h1,h2⟩:=x
  obtain ⟨oT,ts,hT,dT,h3⟩:=y
  have l3:=(Array.getElem?_eq_some_iff.mp h3).1
  unfold setFlight
  refine wpAny_bind (wpAny_field he hd h1 ?_)
  rw [if_pos (show (Value.ref T != Value.none)=true from by simp)]
  have oth:∀ b,b≠T→(s.heap.update T (Obj.mapFields (·.setIfInBounds 3 ((none:Option Addr).elim Value.none fun f=>rawInt f)))).get? b=s.heap.get? b:=fun b hb=>Heap.get?_update_other _ _ (Ne.symm hb)
  exact wpAny_setField hT dT l3 (h _ ⟨oe,vs,a0,(oth a (Ne.symm hTa)).trans he,hc,hd,h0,h1,h2⟩ ⟨_,_,Heap.get?_update_self _ hT (Obj.isFreed_of_fields (Obj.data_mapFields dT _)),Obj.data_mapFields dT _,by simp [l3]⟩ oth)
theorem leave_first {base:Heap} {env:Env} {outer:List Env} {L a C:Addr} {c:Value} {Q:Unit→Shared→Prop} (hfr:A.frames=some (env::outer)) (hl:s.heap.FunFrames base (env::outer)) (hf:env.frame=some L) (x:Ex s.heap a C .none c)
    (h:∀ h' T',Ex h' a C (.ref T') c→Tb h' T' .none→s.heap.get? T'=none→T'≠a→Stp (frs (env::outer)) [a] s.heap h'→Q () { s with heap:=h' }):wpAny M A (leaving env (.ref a)) Q E s:=by
  unfold leaving
  refine wpAny_bind (note_first hfr hl hf x fun h1 T1 x1 y1 n1 m1 p1=>flight_none (s:={ s with heap:=h1 }) x1 y1 m1 fun h2 x2 y2 o2=>h h2 T1 x2 y2 n1 m1 ?_)
  refine ⟨fun b o e n m=>(o2 b fun z=>by rw [z,n1] at e; cases e).trans (p1.keep b o e n m),fun b o e n m=>?_⟩
  obtain ⟨sl,q⟩:=p1.slot b o e n m
  exact ⟨sl,(o2 b fun z=>by rw [z,n1] at e; cases e).trans q⟩
theorem leave_next {base:Heap} {env:Env} {outer:List Env} {L a C T:Addr} {c:Value} {Q:Unit→Shared→Prop} (hfr:A.frames=some (env::outer)) (hl:s.heap.FunFrames base (env::outer)) (hf:env.frame=some L) (x:Ex s.heap a C (.ref T) c) (y:Tb s.heap T .none) (hTa:T≠a)
    (h:∀ h' T',Ex h' a C (.ref T') c→Tb h' T' .none→s.heap.get? T'=none→T'≠a→Stp (frs (env::outer)) [a,T] s.heap h'→Q () { s with heap:=h' }):wpAny M A (leaving env (.ref a)) Q E s:=by
  unfold leaving
  refine wpAny_bind (note_next hfr hl hf x y hTa fun h1 T1 x1 y1 n1 m1 p1=>flight_none (s:={ s with heap:=h1 }) x1 y1 m1 fun h2 x2 y2 o2=>h h2 T1 x2 y2 n1 m1 ?_)
  refine ⟨fun b o e n m=>(o2 b fun z=>by rw [z,n1] at e; cases e).trans (p1.keep b o e n m),fun b o e n m=>?_⟩
  obtain ⟨sl,q⟩:=p1.slot b o e n m
  exact ⟨sl,(o2 b fun z=>by rw [z,n1] at e; cases e).trans q⟩
end
end L3
end
section
namespace L3
open PySem PySem.Spec PyProof.Rows L2
theorem objOk_some {P:Program} {w:World} {H:Hp} {h:Heap} {a:Addr} {o:HO} (x:ObjOk P w H h a o):∃ u,h.get? a=some u:=by
  cases o with
  | lst xs=>obtain ⟨_,_,_,_,e⟩:=x; exact ⟨_,e⟩
  | tup xs=>obtain ⟨_,_,_,o,e,_⟩:=x; exact ⟨_,e⟩
  | dK kvs=>obtain ⟨_,_,_,_,o,_,_,e,_⟩:=x; exact ⟨_,e⟩
  | dT kvs=>obtain ⟨_,_,_,_,o,_,_,e,_⟩:=x; exact ⟨_,e⟩
  | set S n=>obtain ⟨o,_,_,_,e,_⟩:=x; exact ⟨_,e⟩
  | ins C dx fs=>obtain ⟨_,_,_,e,_⟩:=x; exact ⟨_,e⟩
  | own y=>exact x
  | xd fs=>obtain ⟨_,⟨_,_,_,e,_⟩,_⟩:=x; exact ⟨_,e⟩
  | rng lo hi=>obtain ⟨_,_,_,e⟩:=x; exact ⟨_,e⟩
  | frz ob u=>obtain ⟨e,_⟩:=x; exact ⟨_,e⟩
  | tbl ps=>cases ps with
    | tab q ln cl=>rcases x with e | ⟨c,e,_⟩ <;> exact ⟨_,e⟩
    | code q=>obtain ⟨c,o,vs,t,e1,e2,_⟩:=x; cases e1; exact ⟨_,e2⟩
  | met f y=>exact ⟨_,show h.get? a=some _ from x⟩
  | ext φ=>obtain ⟨_,e,_⟩:=x; exact e
theorem hok_none {P:Program} {w:World} {H:Hp} {h:Heap} {a:Addr} (x:HOk P w H h) (e:h.get? a=none):H a=none:=by
  cases q:H a with
  | none=>rfl
  | some o =>
    obtain ⟨u,z⟩:=objOk_some (x a o q)
    rw [e] at z; cases z
theorem Stp.any {fs xs:List Addr} {h h':Heap} (p:Stp fs xs h h') {b:Addr} {o:Obj} (e:h.get? b=some o) (m:b∉xs):∃ sl,h'.get? b=some { o with slots:=sl }:=by
  by_cases hb:b∈fs
  · exact p.slot b o e hb m
  · exact ⟨o.slots,p.keep b o e hb m⟩
theorem hok_stp {P:Program} {w:World} {H:Hp} {h h':Heap} {fs xs:List Addr} (x:HOk P w H h) (p:Stp fs xs h h') (nf:∀ b∈fs,H b=none) (nx:∀ b∈xs,H b=none):HOk P w H h':=fun a o e=>by
  have st:∀ b u,H b≠none→h.get? b=some u→h'.get? b=some u:=fun b u n q=>p.keep b u q (fun z=>n (nf b z)) fun z=>n (nx b z)
  refine (x a o e).stay (fun b u hb q=>st b u ?_ q) (fun _ q=>q) fun _ _ q=>q
  rcases hb with z | z
  · rw [z,e]; simp
  · rw [z]; simp
structure Fre (X:Cx) (pins:List (Addr×Obj)) (H:Hp) (b:Addr):Prop where
  un:H b=none
  new:X.s₀.heap.get? b=none
  loc:b≠X.env.locals
  cel:∀ x c,X.env.cells.lookup x=some c→c≠b
  pin:∀ p∈X.pn++pins,p.1≠b
section
variable {X:Cx} {pins:List (Addr×Obj)} {σ:L2.St} {H H':Hp} {s s':Shared} {h':Heap} {a:Addr}
theorem fre_new (I:Inv X pins σ H s) (e:s.heap.get? a=none) (hx:a∉X.ex) (hn:H' a=none):Fre X pins H' a:=by
  refine ⟨hn,?_,fun z=>?_,fun x c q z=>?_,fun p hp z=>?_⟩
  · cases q:X.s₀.heap.get? a with
    | none=>rfl
    | some o =>
      obtain ⟨o',z⟩:=I.base.there a o q hx
      rw [e] at z; cases z
  · obtain ⟨m,⟨o,_,_,ho,_⟩,_⟩:=I.loc
    rw [← z,e] at ho; cases ho
  · obtain ⟨v,o,ho,_⟩:=I.cell x c q
    rw [z,e] at ho; cases ho
  · have:=(I.pin p hp).1
    rw [z,e] at this; cases this
theorem Inv.stp {ch:List Addr} (I:Inv X pins σ H s) (p:Stp (frs X.stack) ch s.heap h') (hc:∀ b∈ch,Fre X pins H b):Inv X pins σ H { s with heap:=h' }:=by
  have nch:∀ b o,X.s₀.heap.get? b=some o→b∉ch:=fun b o e z=>by rw [(hc b z).new] at e; cases e
  have nst:∀ b o,X.s₀.heap.get? b=some o→b∉X.fs→b∉frs X.stack:=fun b o e hb z=>by
    rcases List.mem_cons.mp (I.stkSub b z) with q | q
    · have:=Heap.lt_size e
      rw [q] at this
      exact absurd this (Nat.not_lt.mpr I.ok.above)
    · exact hb q
  have cellK:∀ x c,X.env.cells.lookup x=some c→∀ v,s.heap.IsCell c v→h'.IsCell c v:=fun x c e v ⟨o,ho,hd⟩=>by
    obtain ⟨sl,q⟩:=p.any ho fun z=>(hc c z).cel x c e rfl
    exact ⟨_,q,hd⟩
  refine ⟨I.ok,I.os,I.bare,⟨fun b o e n hb hx=>?_,fun b o e n hb hx=>?_,fun b o e n hx=>I.base.free b o e n hx,fun b o e hx=>?_,I.base.tups,I.base.frzs,I.base.tbls⟩,?_,fun x c e=>?_,I.free,I.freeC,fun q hq=>?_,hok_stp I.hok p I.stkFree fun b hb=>(hc b hb).un,I.len⟩
  · exact p.keep b o (I.base.keep b o e n hb hx) (nst b o e hb) (nch b o e)
  · obtain ⟨sl,e1⟩:=I.base.slot b o e n hb hx
    obtain ⟨sl',e2⟩:=p.any e1 (nch b o e)
    exact ⟨sl',e2⟩
  · obtain ⟨o',e1⟩:=I.base.there b o e hx
    obtain ⟨sl,e2⟩:=p.any e1 (nch b o e)
    exact ⟨_,e2⟩
  · obtain ⟨m,⟨o,es,ep,ho,r⟩,hl⟩:=I.loc
    obtain ⟨sl,hL⟩:=p.any ho fun z=>(hc _ z).loc rfl
    refine ⟨m,⟨_,es,ep,hL,r⟩,fun i x v e1 e2 e3=>?_⟩
    obtain ⟨u,r,l⟩:=hl i x v e1 e2 e3
    refine ⟨u,r,?_⟩
    rcases l with l | ⟨k,c,e,z⟩
    · exact .inl l
    · exact .inr ⟨k,c,e,cellK x c e _ z⟩
  · obtain ⟨v,z⟩:=I.cell x c e
    exact ⟨v,cellK x c e v z⟩
  · obtain ⟨e,n,ne,nf,d⟩:=I.pin q hq
    exact ⟨p.keep q.1 q.2 e (fun z=>(List.mem_cons.mp (I.stkSub q.1 z)).elim ne nf) fun z=>(hc q.1 z).pin q hq rfl,n,ne,nf,d⟩
end
structure Fly (X:Cx) (pins:List (Addr×Obj)) (H:Hp) (s:Shared) (a C T:Addr) (c fl:Value):Prop where
  ex:Ex s.heap a C (.ref T) c
  tb:Tb s.heap T fl
  ne:T≠a
  fa:Fre X pins H a
  fT:Fre X pins H T
def CXo (P:Program) (w:World):CXT:=fun hh outer H s E e s'=>∃ (a C T:Addr) (c:Value) (H':Hp),e=.ref a∧s'.os=s.os∧AllBare s'.gens∧Un (frs outer) [] H H' s.heap s'.heap∧HOk P w H' s'.heap ∧
  Ex s'.heap a C (.ref T) c∧(hh=none→c=.none)∧Tb s'.heap T .none∧T≠a∧H' a=none∧H' T=none∧s.heap.get? a=none∧s.heap.get? T=none∧E (.ref C) none H'
section
variable {X:Cx} {pins:List (Addr×Obj)} {σ:L2.St} {H:Hp} {s s':Shared} {E:XK} {e:Value} {hh:Option Value}
theorem fly_of (I:Inv X pins σ H s) (hx:X.ex=[]) (h:CXo X.prog X.w hh X.stack H s E e s'):∃ a C T c H',e=.ref a∧Inv X pins σ H' s'∧Fly X pins H' s' a C T c .none∧(hh=none→c=.none)∧E (.ref C) none H':=by
  obtain ⟨a,C,T,c,H',rfl,os,bare,un,hok,ex,hc,tb,ne,na,nT,fa,fT,q⟩:=h
  refine ⟨a,C,T,c,H',rfl,I.call' os un hok bare (fun b z=>absurd z (by simp)),⟨ex,tb,ne,fre_new I fa (by rw [hx]; simp) na,fre_new I fT (by rw [hx]; simp) nT⟩,hc,q⟩
end
section
variable {P:Program} {w:World} {K:PySem.W.Frag} {mg:Str→Option Value} {base:Heap} {N:List Str} {qual:Str} {sc:Scope} {f:Addr} {cd:Value} {A:Around} {outer:List Env} {s₀:Shared} {H₀:Hp} {E:XK}
theorem out_of {σ:L2.St} {H:Hp} {s:Shared} {pins:List (Addr×Obj)} {a C T:Addr} {c:Value} {h':Heap} {ch:List Addr}
    (I:Inv (cxOf (CXo P w) P w K mg base N qual sc f cd A outer s₀ H₀ E) pins σ H s) (p:Stp (frs (cxOf (CXo P w) P w K mg base N qual sc f cd A outer s₀ H₀ E).stack) ch s.heap h') (hch:∀ b∈ch,Fre (cxOf (CXo P w) P w K mg base N qual sc f cd A outer s₀ H₀ E) pins H b)
    (fa:Fre (cxOf (CXo P w) P w K mg base N qual sc f cd A outer s₀ H₀ E) pins H a) (ex:Ex h' a C (.ref T) c) (tb:Tb h' T .none) (nT:s.heap.get? T=none) (ne:T≠a) (hc:A.handled=none→c=.none) (q:E (.ref C) none H) :
    CXo P w A.handled outer H₀ s₀ E (.ref a) { s with heap:=h' }:=by
  have J:=Inv.stp I p hch
  exact ⟨a,C,T,c,H,rfl,J.os,J.bare,J.base,J.hok,ex,hc,tb,ne,fa.un,hok_none I.hok nT,fa.new,(fre_new (H':=H) I nT (by show T∉[]; simp) (hok_none I.hok nT)).new,q⟩
theorem xe_fly {σ:L2.St} {H:Hp} {s:Shared} {pins:List (Addr×Obj)} {a C T:Addr} {c:Value}
    (I:Inv (cxOf (CXo P w) P w K mg base N qual sc f cd A outer s₀ H₀ E) pins σ H s) (F:Fly (cxOf (CXo P w) P w K mg base N qual sc f cd A outer s₀ H₀ E) pins H s a C T c .none) (hc:A.handled=none→c=.none) (q:E (.ref C) none H) :
    (cxOf (CXo P w) P w K mg base N qual sc f cd A outer s₀ H₀ E).xe (.ref a) s:=by
  refine leave_next I.ok.frames I.stack rfl F.ex F.tb F.ne fun h' T' x1 x2 x3 x4 p=>?_
  exact out_of (ch := [a, T]) I p (fun b hb => by rcases List.mem_cons.mp hb with z | z; · rw [z]; exact F.fa
                                                  · rw [List.mem_singleton.mp z]; exact F.fT) F.fa x1 x2 x3 x4 hc q
theorem passes_o {N:List Str}:Passes (CXo P w) (cxOf (CXo P w) P w K mg base N qual sc f cd A outer s₀ H₀ E) E:=fun pins σ H s e s' I h=>by
  obtain ⟨a,C,T,c,H',rfl,J,F,hc,q⟩:=fly_of I rfl h
  exact xe_fly J F hc q
theorem xe_made {σ:L2.St} {H:Hp} {s:Shared} {pins:List (Addr×Obj)} {a C:Addr} {h':Heap}
    (I:Inv (cxOf (CXo P w) P w K mg base N qual sc f cd A outer s₀ H₀ E) pins σ H s) (m:MadeX s.heap h' a C A.handled) (q:E (.ref C) none H) :
    (cxOf (CXo P w) P w K mg base N qual sc f cd A outer s₀ H₀ E).xe (.ref a) { s with heap:=h' }:=by
  have J:Inv (cxOf (CXo P w) P w K mg base N qual sc f cd A outer s₀ H₀ E) pins σ H { s with heap:=h' }:=I.kept (t':=s.toks) m.keeps
  obtain ⟨oe,vs,t,c,e1,e2,e3,e4,e5,e6,e7⟩:=m.there
  have fa:Fre (cxOf (CXo P w) P w K mg base N qual sc f cd A outer s₀ H₀ E) pins H a:=fre_new I m.new (by show a∉[]; simp) (hok_none I.hok m.new)
  refine leave_first J.ok.frames J.stack rfl ⟨oe,vs,.ref t,e1,e2,e3,e4,e5,e6⟩ fun h'' T' x1 x2 x3 x4 p=>?_
  exact out_of (ch:=[a]) J p (fun b hb=>by rw [List.mem_singleton.mp hb]; exact fa) fa x1 x2 x3 x4 e7 q
theorem own_o {N:List Str}:PassesOwn (model P w) (cxOf (CXo P w) P w K mg base N qual sc f cd A outer s₀ H₀ E).A (cxOf (CXo P w) P w K mg base N qual sc f cd A outer s₀ H₀ E).env (cxOf (CXo P w) P w K mg base N qual sc f cd A outer s₀ H₀ E).xe :=
  PassesOwn.leaving
end
theorem Df.okX {P:Program} {w:World} {K:PySem.W.Frag} {mg:Str→Option Value} {x:Str} {st:Stmt} {N ps:List Str} {k:Nat} {sp:Sp} (D:Df K mg x st ps) (S:FnScope N ps (defScope st)) (len:∀ vs H Q E,sp vs H Q E→vs.length=ps.length)
    (hbody:∀ (base:Heap) (f:Addr) (cdv:Value) (A:Around) (outer:List Env) (s:Shared) (H:Hp) (vs:List V) (Q:VK) (E:XK),Room k (A.deeper (envOfC x (defScope st) s.heap.objs.size f cdv))→sp vs H Q E →
      ∃ t,PSs (cxOf (CXo P w) P w K mg base N x (defScope st) f cdv A outer s H E) (defBody st) t∧t { nx:=fun _ H'=>Q .non H',rt:=Q } (start N vs) H):Cal P w K mg (CXo P w) x (k+1) ps sp:=by
  obtain ⟨f,fd,F,m,b⟩:=D
  refine ⟨f,fd,fun base=>?_,m,F.kp,b⟩
  obtain ⟨oc,od,kV,doc,pm,an,cdv,ct,osl,rfl,lk,hcd⟩:=F.ex
  exact fn_of lk hcd S len fun A outer s H vs Q E hr hsp=>hbody base f cdv A outer s H vs Q E hr hsp
end L3
end
section
namespace L3
open PySem PySem.Spec PyProof.Rows L2
abbrev suCx (X:Cx) (a:Addr) (oe:Obj) (cm:Bool):Cx:={ X with A:=X.A.mark (some (.ref a)),calm:=cm,pn:=(a,oe)::X.pn,xe:=fun _ _=>False }
section
variable {X:Cx} {pins:List (Addr×Obj)} {σ:L2.St} {H:Hp} {s:Shared} {a:Addr} {oe:Obj} {cm:Bool}
theorem su_ok (ok:X.Ok) (hc:cm=true→∃ vs,oe.data=.fields vs∧vs[2]?=some .none):(suCx X a oe cm).Ok :=
  ⟨ok.mod,ok.kind,ok.glob,ok.blt,ok.above,ok.inj,ok.has,ok.cab,fun h=>let ⟨vs,e1,e2⟩:=hc h; .inr ⟨a,oe,vs,rfl,.inr List.mem_cons_self,e1,e2⟩,ok.frames,ok.stk,ok.exf,ok.bs,ok.bsz,ok.noex,ok.exfs,ok.funs,ok.frf⟩
theorem su_in (I:Inv X pins σ H s) {vs:Array Value} (e:s.heap.get? a=some oe) (d:oe.data=.fields vs) (F:Fre X pins H a) (hc:cm=true→∃ vs,oe.data=.fields vs∧vs[2]?=some .none):Inv (suCx X a oe cm) pins σ H s:=by
  refine ⟨su_ok I.ok hc,I.os,I.bare,I.base,I.loc,I.cell,I.free,I.freeC,fun p hp=>?_,I.hok,I.len⟩
  rcases List.mem_cons.mp (show p∈(a,oe)::(X.pn++pins) from hp) with z | z
  · rw [z]
    exact ⟨e,F.un,F.loc,fs_ne I.funs e d,fun v q=>by rw [d] at q; cases q⟩
  · exact I.pin p z
theorem su_out (ok:X.Ok) (I:Inv (suCx X a oe cm) pins σ H s):Inv X pins σ H s:=⟨ok,I.os,I.bare,I.base,I.loc,I.cell,I.free,I.freeC,fun p hp=>I.pin p (List.mem_cons_of_mem _ hp),I.hok,I.len⟩
theorem inv_del {m:Str→Option Value} {i:Nat} {n:Str} {v:Option Value} {h':Heap} {t':Nat} (I:Inv X pins σ H s) (hN:X.N.Nodup) (hi:X.N[i]?=some n) (hx:X.env.scope.names.lookup n=some .local) (hn:s.heap.Ns X.env.locals m)
    (hl:∀ (i:Nat) (x:Str) (v:V),X.N[i]?=some x→σ[i]?=some (some v)→Vis X.env.scope x→∃ u,RelV v u∧Look X.env s.heap m x u)
    (hn':h'.Ns X.env.locals (fun x=>if x=n then v else m x)) (hs:Heap.SameBut X.env.locals s.heap h'):Inv X pins (σ.set i none) H { s with heap:=h',toks:=t' }:=by
  have oth:∀ b o,b≠X.env.locals→s.heap.get? b=some o→h'.get? b=some o:=fun b o n e=>(hs.2 b n).trans e
  have neL:∀ b o,X.s₀.heap.get? b=some o→b≠X.env.locals:=fun b o e=>Nat.ne_of_lt (Nat.lt_of_lt_of_le (Heap.lt_size e) I.ok.above)
  have cellK:∀ x c,X.env.cells.lookup x=some c→∀ v,s.heap.IsCell c v→h'.IsCell c v:=fun x c e v ⟨o,ho,hd⟩=>⟨o,oth c o (I.cne x c e) ho,hd⟩
  obtain ⟨oL,_,_,hoL,_⟩:=id hn'
  refine ⟨I.ok,I.os,I.bare,⟨fun b o e n hb hx=>oth b o (neL b o e) (I.base.keep b o e n hb hx),fun b o e n hb hx=>?_,I.base.free,fun b o e hx=>?_,I.base.tups,I.base.frzs,I.base.tbls⟩,⟨_,hn',fun j y v' e1 e2 e3=>?_⟩,fun x c e=>?_,I.free,I.freeC,fun p hp=>?_,fun b u e=>?_,by simpa using I.len⟩
  · obtain ⟨sl,q⟩:=I.base.slot b o e n hb hx
    exact ⟨sl,oth b _ (neL b o e) q⟩
  · obtain ⟨o',q⟩:=I.base.there b o e hx
    exact ⟨o',oth b _ (neL b o e) q⟩
  · have hji:j≠i:=fun z=>by
      rw [z] at e2
      rw [List.getElem?_set_self' ] at e2
      cases q:σ[i]? <;> rw [q] at e2 <;> simp at e2
    rw [List.getElem?_set_ne (Ne.symm hji)] at e2
    obtain ⟨u,r,l⟩:=hl j y v' e1 e2 e3
    have hyn:y≠n:=fun z=>hji (nodup_ix hN (z ▸ e1) hi)
    refine ⟨u,r,?_⟩
    rcases l with ⟨k,l⟩ | ⟨k,c,e,z⟩
    · exact .inl ⟨k,by show (if y=n then v else m y)=some u; rw [if_neg hyn]; exact l⟩
    · exact .inr ⟨k,c,e,cellK y c e _ z⟩
  · obtain ⟨v,z⟩:=I.cell x c e
    exact ⟨v,cellK x c e v z⟩
  · obtain ⟨e,n,ne,nf,d⟩:=I.pin p hp
    exact ⟨oth p.1 p.2 ne e,n,ne,nf,d⟩
  · have nL:∀ c,H c≠none→c≠X.env.locals:=fun c n z=>n (by rw [z]; exact I.free)
    refine (I.hok b u e).stay (fun c o hc q=>oth c o (nL c ?_) q) (fun _ q=>q) fun _ _ q=>q
    rcases hc with z | z
    · rw [z,e]; simp
    · rw [z]; simp
theorem name_gone {M:Model} {A:Around} {E:Value→Shared→Prop} {Q:Unit→Shared→Prop} {i:Nat} {n:Str} {pos:Pos} (I:Inv X pins σ H s) (hN:X.N.Nodup) (hi:X.N[i]?=some n) (hx:X.env.scope.names.lookup n=some .local) (h:∀ s',Inv X pins (σ.set i none) H s'→Q () s') :
    wpAny M A (do bindName X.env n .none; unbindBehindTheSuite X.env n pos) Q E s:=by
  obtain ⟨m,hn,hl⟩:=id I.loc
  refine wpAny_nameGoes_keeps hx hn (by rw [I.ok.kind]; rfl) fun h' v hn' hs=>h _ (inv_del I hN hi hx hn hl hn' hs)
end
theorem exc_matches {K:PySem.W.Frag} {prog:Program} {w:World} {A:Around} {E:Value→Shared→Prop} {Q:Bool→Shared→Prop} {s:Shared} {a C C':Addr} {oe:Obj} {b:Bool} (X:K.In s.heap) (he:s.heap.get? a=some oe) (hc:oe.cls=.ref C) (hK:ExcK K C') (e:PySem.W.subIn K (.ref C) (.ref C')=some b)
    (q:Q b s):wpAny (model prog w) A (excMatches (.ref a) (.ref C')) Q E s:=by
  obtain ⟨bmB,newId,initId,FB,qK⟩:=hK
  obtain ⟨bm,N,nm,qn,bs,hdct,sn,sub,ab,col,dd,k0,k1,k2,k3,k5,mN,hC,hN,hni,T⟩:=excK_obj X qK
  have hcB:(Value.ref C'::bm).contains (.type "BaseException")=true:=by rw [List.contains_cons,T.hasType FB.hasBase,Bool.or_true]
  have f:=tc_notTuple
  have L:=PySem.W.looks_subIn (M:=model prog w) X e
  obtain ⟨hp,g,d,t,os⟩:=s
  unfold excMatches
  repeat (first | with_reducible refine wpAny_bind (L.at ?_) | (with_reducible refine wpAny_loadPart_at he ?_; rw [hc]) | with_reducible refine wpAny_loadPart_at hC ?_ | (with_reducible refine wpAny_isSubtype_exc hC ?_; rw [hcB]) | wp_step)
  cases b <;> (wp_walk; exact q)
abbrev TH:=Addr→Addr→TS
def PH (X:Cx) (hs:List ExceptHandler) (t:TH):Prop:=∀ (pins:List (Addr×Obj)) (s:Shared) (σ:L2.St) (H:Hp) (D:Ends) (a C T:Addr) (c:Value),Inv X pins σ H s→Fly X pins H s a C T c .none→(X.A.handled=none→c=.none)→t C a D σ H →
  wpAny (model X.prog X.w) X.A (handleBy (.ref a) X.env hs) (SP X pins D) X.xe s
def hNil:TH:=fun _ _ _ _ _=>False
theorem ph_nil {X:Cx}:PH X [] hNil:=fun _ _ _ _ _ _ _ _ _ _ _ _ h=>h.elim
def Cm (X:Cx) (cm:Bool):Prop:=cm=true→X.A.handled=none
section
variable {X:Cx} {cm:Bool}
theorem fly_su {pins:List (Addr×Obj)} {s:Shared} {H:Hp} {a C T:Addr} {c fl:Value} (F:Fly X pins H s a C T c fl) (hc:X.A.handled=none→c=.none) (hm:Cm X cm):∃ oe vs,s.heap.get? a=some oe∧oe.cls=.ref C∧oe.data=.fields vs∧(cm=true→∃ vs,oe.data=.fields vs∧vs[2]?=some .none):=by
  obtain ⟨oe,vs,a0,e1,e2,e3,e4,e5,e6⟩:=F.ex
  exact ⟨oe,vs,e1,e2,e3,fun z=>⟨vs,e3,by rw [e6,hc (hm z)]⟩⟩
theorem clause_test {x:Str} {C':Addr} {np pos:Pos} {pins:List (Addr×Obj)} {s:Shared} {σ:L2.St} {H:Hp} {a C T:Addr} {c:Value} {b:Bool} {R:Result→Shared→Prop} (hK:ExcK X.K C') (hm:X.mg x=some (.ref C')) (hg:Gl X x) (hdb:(x==("__debug__" : Str))=false)
    (I:Inv X pins σ H s) (F:Fly X pins H s a C T c .none) (e:PySem.W.subIn X.K (.ref C) (.ref C')=some b)
    (h:∀ s1,Inv X pins σ H s1→Fly X pins H s1 a C T c .none→R (.ok (if b then .brk else .next)) s1) :
    codeAny (model X.prog X.w) (X.A.mark (some (.ref a))) (.handlers (.ref a) [.ExceptHandler (some (.Name x np)) none [] pos] X.env) R s:=by
  obtain ⟨oe,vs,a0,e1,e2,e3,e4,e5,e6⟩:=F.ex
  obtain ⟨oT,ts,f1,f2,f3⟩:=F.tb
  have I0:Inv X ((T,oT)::pins) σ H s:=I.pins_of fun p hp=>by
    rcases List.mem_cons.mp hp with z | z
    · rw [z]
      exact ⟨f1,F.fT.un,F.fT.loc,fs_ne I.funs f1 f2,fun v q=>by rw [f2] at q; cases q⟩
    · exact I.pin p (List.mem_append_right _ z)
  have fa':Fre X ((T,oT)::pins) H a:=⟨F.fa.un,F.fa.new,F.fa.loc,F.fa.cel,fun p hp=>by
    rcases List.mem_append.mp hp with z | z
    · exact F.fa.pin p (List.mem_append_left _ z)
    · rcases List.mem_cons.mp z with z | z
      · rw [z]; exact F.ne
      · exact F.fa.pin p (List.mem_append_right _ z)⟩
  have I1:Inv (suCx X a oe false) ((T,oT)::pins) σ H s:=su_in I0 e1 e3 fa' (fun z=>nomatch z)
  refine codeAny_handlers_test (wpAny_mono (pe_gref (X:=suCx X a oe false) (a:=C') hm hg hdb _ _ _ _ (fun v H'=>v=.ref C'∧H'=H) I1 ⟨rfl,rfl⟩) (fun v s1 hv=>?_) fun _ _ z=>z.elim)
  obtain ⟨w,H',J,r,rfl,rfl⟩:=hv
  cases (show v=Value.ref C' from r)
  have k1:=(J.pin (a,oe) (by simp)).1
  have k2:=(J.pin (T,oT) (by simp)).1
  have J0:Inv X pins σ H' s1:=(su_out I.ok J).pins_of fun p hp=>I0.ok |> fun _=>(su_out I.ok J).pin p (List.mem_append_right _ (List.mem_cons_of_mem _ hp))
  exact exc_matches J0.kIn k1 e2 hK e (h s1 J0 ⟨⟨oe,vs,a0,k1,e2,e3,e4,e5,e6⟩,⟨oT,ts,k2,f2,f3⟩,F.ne,F.fa,F.fT⟩)
theorem suite_in {pins:List (Addr×Obj)} {s:Shared} {σ:L2.St} {H:Hp} {a C T:Addr} {c fl:Value} {A:Around} {E:Value→Shared→Prop} {Q:Unit→Shared→Prop} (I:Inv X pins σ H s) (F:Fly X pins H s a C T c fl) (hc:X.A.handled=none→c=.none) (hm:Cm X cm)
    (h:∀ s1 oe,Inv (suCx X a oe cm) pins σ H s1→oe.cls=.ref C→Q () s1):wpAny (model X.prog X.w) A (setFlight (.ref a) none) Q E s:=by
  refine flight_none F.ex F.tb F.ne fun h' x1 x2 ot=>?_
  have p:Stp (frs X.stack) [T] s.heap h':=⟨fun b o e _ m=>(ot b (by simpa using m)).trans e,fun b o e _ m=>⟨o.slots,(ot b (by simpa using m)).trans e⟩⟩
  have J:=Inv.stp I p fun b hb=>by rw [List.mem_singleton.mp hb]; exact F.fT
  have F':Fly X pins H { s with heap:=h' } a C T c .none:=⟨x1,x2,F.ne,F.fa,F.fT⟩
  obtain ⟨oe,vs,e1,e2,e3,e4⟩:=fly_su F' hc hm
  exact h _ oe (su_in J e1 e3 F.fa e4) e2
def D1 (i:Nat) (D:Ends):Ends:={ nx:=fun σ H=>D.nx (σ.set i none) H,rt:=D.rt,bk:=fun σ H=>D.bk (σ.set i none) H,ct:=fun σ H=>D.ct (σ.set i none) H }
def hAs (K:PySem.W.Frag) (i:Nat) (C':Addr) (ts tr:TH):TH:=fun C a D σ H=>∃ b,PySem.W.subIn K (.ref C) (.ref C')=some b∧if b=true then ts C a (D1 i D) (σ.set i (some (.ref a))) H else tr C a D σ H
theorem ph_as {x y:Str} {i:Nat} {C':Addr} {np pos:Pos} {b₀:Stmt} {suite:List Stmt} {rest:List ExceptHandler} {ts tr:TH} (cm:Bool) (hN:X.N.Nodup) (hi:X.N[i]?=some y) (hy:X.env.scope.names.lookup y=some .local) (hK:ExcK X.K C') (hm:X.mg x=some (.ref C')) (hg:Gl X x) (hcm:Cm X cm)
    (hs:∀ (a C:Addr) (oe:Obj),oe.cls=.ref C→PSs (suCx X a oe cm) (b₀::suite) (ts C a)) (hr:PH X rest tr) (hdb:(x==("__debug__" : Str))=false:=by decide) :
    PH X (.ExceptHandler (some (.Name x np)) (some y) (b₀::suite) pos::rest) (hAs X.K i C' ts tr):=by
  intro pins s σ H D a C T c I F hc h
  obtain ⟨b,e,h⟩:=h
  refine wpAny_handleBy_cons (clause_test hK hm hg hdb I F e fun s1 J F1=>?_) (by intro q; cases q)
  cases b with
  | false =>
    have h:tr C a D σ H:=by simpa using h
    exact hr pins s1 σ H D a C T c J F1 hc h
  | true =>
    have h:ts C a (D1 i D) (σ.set i (some (.ref a))) H:=by simpa using h
    refine codeAny_handlers_suite_as (suite_in J F1 hc hcm fun s2 oe J2 eo=>?_)
    refine store_ok (X:=suCx X a oe cm) (v:=.ref a) J2 hN hi (.inl hy) rfl (fun s3 J3=>?_) (.inr hy)
    refine wpAny_mono (hs a C oe eo pins s3 _ H (D1 i D) J3 h) (fun f s4 q=>?_) fun _ _ z=>z.elim
    cases f with
    | next=>obtain ⟨σ',H',K',q⟩:=q; exact name_gone (su_out I.ok K') hN hi hy fun s5 L=>⟨_,H',L,q⟩
    | brk=>obtain ⟨σ',H',K',q⟩:=q; exact name_gone (su_out I.ok K') hN hi hy fun s5 L=>⟨_,H',L,q⟩
    | cont=>obtain ⟨σ',H',K',q⟩:=q; exact name_gone (su_out I.ok K') hN hi hy fun s5 L=>⟨_,H',L,q⟩
    | ret u=>obtain ⟨v,σ',H',K',r,q⟩:=q; exact name_gone (su_out I.ok K') hN hi hy fun s5 L=>⟨v,_,H',L,r,q⟩
end
abbrev TB:=Ends→(Addr→L2.St→Hp→Prop)→L2.St→Hp→Prop
def BX (X:Cx) (pins:List (Addr×Obj)) (G:Addr→L2.St→Hp→Prop) (e:Value) (s':Shared):Prop:=∃ (a C T:Addr) (c:Value) (σ':L2.St) (H':Hp),e=.ref a∧Inv X pins σ' H' s'∧Fly X pins H' s' a C T c .none∧(X.A.handled=none→c=.none)∧G C σ' H'
def PB (X:Cx) (body:List Stmt) (t:TB):Prop:=∀ (pins:List (Addr×Obj)) (s:Shared) (σ:L2.St) (H:Hp) (D:Ends) (G:Addr→L2.St→Hp→Prop),Inv X pins σ H s→t D G σ H→wpAny (model X.prog X.w) X.A (execs body X.env) (SP X pins D) (BX X pins G) s
def tTry (tb:TB) (th:TH):TS:=fun D σ H=>tb D (fun C σ' H'=>∀ a,H' a=none→th C a D σ' H') σ H
theorem ps_try {X:Cx} {body:List Stmt} {h₀:ExceptHandler} {hs:List ExceptHandler} {tb:TB} {th:TH} {pos:Pos} (hx:X.ex=[]) (hst:X.stack=X.env::X.outer) (hf:X.env.frame=some X.env.locals) (hb:PB X body tb) (hh:PH X (h₀::hs) th):PS X (.Try body (h₀::hs) [] [] pos) (tTry tb th):=by
  intro pins s σ H D I h
  refine wpAny_Try_except (wpAny_mono (hb pins s σ H D _ I h) (fun f s1 q=>?_) fun e s1 q=>?_)
  · cases f with
    | next=>exact (by first | exact wpAny_execs_nil q | (rw [execs]; exact wpAny_pure q) | exact wpAny_pure q)
    | brk=>exact q
    | cont=>exact q
    | ret u=>exact q
  · obtain ⟨a,C,T,c,σ',H',rfl,J,F,hc,q⟩:=q
    refine note_next (by rw [J.ok.frames,hst]) (hst ▸ J.stack) hf F.ex F.tb F.ne fun h1 T1 x1 y1 n1 m1 p1=>flight_none (s:={ s1 with heap:=h1 }) x1 y1 m1 fun h2 x2 y2 o2=>?_
    have J1:Inv X pins σ' H' { s1 with heap:=h1 }:=Inv.stp J (hst ▸ p1) fun b hb=>by
      rcases List.mem_cons.mp hb with z | z
      · rw [z]; exact F.fa
      · rw [List.mem_singleton.mp z]; exact F.fT
    have fT1:Fre X pins H' T1:=fre_new J n1 (by rw [hx]; simp) (hok_none J.hok n1)
    have p2:Stp (frs X.stack) [T1] h1 h2:=⟨fun b o e _ m=>(o2 b (by simpa using m)).trans e,fun b o e _ m=>⟨o.slots,(o2 b (by simpa using m)).trans e⟩⟩
    have J2:Inv X pins σ' H' { s1 with heap:=h2 }:=Inv.stp (s:={ s1 with heap:=h1 }) J1 p2 fun b hb=>by rw [List.mem_singleton.mp hb]; exact fT1
    exact hh pins _ σ' H' D a C T1 c J2 ⟨x2,y2,m1,F.fa,fT1⟩ hc (q a F.fa.un)
theorem call_b {X:Cx} {x:Str} {k:Nat} {ps:List Str} {sp:Sp} {e:Expr} {es:List Expr} {t:TA} {p pos:Pos} {pins:List (Addr×Obj)} {s:Shared} {σ:L2.St} {H:Hp} {Q:VK} {G:Addr→L2.St→Hp→Prop} (F:Cal X.prog X.w X.K X.mg (CXo X.prog X.w) x k ps sp) (hr:Room k X.A) (hg:Gl X x) (hx:X.ex=[])
    (ha:PA X.nox (e::es) t) (hdb:(x==("__debug__" : Str))=false) (he:starEach (e::es) X.env=(false,eval e X.env)::starEach es X.env) (hpl:(backTo pos (starEach es X.env)).any (·.1)=false) (hc:X.calm=true)
    (I:Inv X pins σ H s) (h:t σ H fun vs H1=>sp vs H1 Q fun Cv _ H2=>∃ C,Cv=.ref C∧G C σ H2):wpAny (model X.prog X.w) X.A (eval (.Call (.Name x p) (e::es) [] pos) X.env) (EP X pins σ Q) (BX X pins G) s:=by
  obtain ⟨f,fd,F,m,kp,b⟩:=F
  refine wpAny_Call_Name_kw (ld_glob I hg m ?_ hdb)
  refine PySem.W.callWith_K (h₀:=X.base) I.ok.mod.kin kp (wpAny_mono (ha pos pins s σ H _ (I.wish _) h) (fun us s1 ⟨vs,H1,I1,r,q⟩=>⟨I1.unwish.kIn,?_⟩) fun _ _ z=>z.elim) he hpl
  refine run_cal F hr b I1.unwish hc (fun e s' hc=>?_) r q
  obtain ⟨a,C,T,c,H',rfl,J,Fl,hn,C',ec,q⟩:=fly_of I1.unwish hx hc
  cases ec
  exact ⟨a,C,T,c,σ,H',rfl,J,Fl,hn,q⟩
def bRet (sp:Sp) (t:TA):TB:=fun D G σ H=>t σ H fun vs H1=>sp vs H1 D.rt fun Cv _ H2=>∃ C,Cv=.ref C∧G C σ H2
theorem pb_ret {X:Cx} {x:Str} {k:Nat} {ps:List Str} {sp:Sp} {e:Expr} {es:List Expr} {t:TA} {p pos pos':Pos} (F:Cal X.prog X.w X.K X.mg (CXo X.prog X.w) x k ps sp) (hr:Room k X.A) (hg:Gl X x) (hx:X.ex=[]) (ha:PA X.nox (e::es) t)
    (hdb:(x==("__debug__" : Str))=false:=by decide) (he:starEach (e::es) X.env=(false,eval e X.env)::starEach es X.env:=by rfl) (hpl:(backTo pos (starEach es X.env)).any (·.1)=false:=by rfl) (hc:X.calm=true:=by rfl) :
    PB X [.Return (some (.Call (.Name x p) (e::es) [] pos)) pos'] (bRet sp t):=by
  intro pins s σ H D G I h
  exact wpAny_execs_cons (wpAny_Return_some (thn (call_b F hr hg hx ha hdb he hpl hc I h) fun v s1 ⟨y,H1,I1,r1,q1⟩=>⟨y,σ,H1,I1,r1,q1⟩))
end L3
end
section
namespace L3
open PySem PySem.Spec PyProof.Rows L2
structure ClsK (K:PySem.W.Frag) (C:Addr):Prop where
  ga:PySem.W.findIn K (.ref C) "__getattribute__" = some (some (.builtin "BaseException.__getattribute__"))
  cl:PySem.W.findIn K (.ref C) "__class__" = some (some (.builtin "object.__class__"))
  gt:PySem.W.findIn K (.ref C) "__getattr__" = some none
  ob:PySem.W.mroIn K C (.type "object")=some true
  be:PySem.W.mroIn K C (.type "BaseException")=some true
  is:(PySem.W.clsIn K C).isSome=true
section
variable {prog:Program} {w:World} {A:Around} {E:Value→Shared→Prop} {h:Heap} {g:Array GenState} {d:Drawn} {t:Nat} {os:OsState} {a C:Addr} {o:Obj} {K:PySem.W.Frag}
theorem class_get_own {R:Result→Shared→Prop} (X:K.In h) (G:ClsK K C) (hx:h.get? a=some o) (hc:o.cls=.ref C) (hq:R (.ok (.ret (.ref C))) ⟨h,g,d,t,os⟩) :
    codeAny (model prog w) A (.call (.builtin "getset_descriptor.__get__") ⟨[.builtin "object.__class__",.ref a,.ref C],[]⟩) R ⟨h,g,d,t,os⟩:=by
  have hT5:(⟨h,g,d,t,os⟩:Shared).TypeIs (.builtin "object.__class__") "getset_descriptor" := F.typeOf_object_class
  have L:PySem.W.Looks (model prog w) h (isSubtype (.ref C) (.type (".".intercalate ("object.__class__".cutAt '.').dropLast))) true:=by
    rw [F.owner_object_class]
    exact PySem.W.looks_mroIn X G.ob
  refine codeAny_call_builtin F.slot_gs_get.plain F.entry_gs_get (F.slot_gs_get.check _ _ _ _ _ _ _ _ hT5 (F.args_gs_get _ _ _) ?_)
  repeat (any_goals (first | assumption | (with_reducible refine wpAny_loadPart_at hx ?_; rw [hc]) | with_reducible refine wpAny_bind (L.at ?_) | with_reducible refine L.at ?_ | wp_step))
  refine ⟨Code.quiet_builtin _ (by decide +kernel),codeAny_builtin F.entry_object_class ?_⟩
  repeat (any_goals (first | assumption | (with_reducible refine wpAny_loadPart_at hx ?_; rw [hc]) | wp_step))
theorem class_entry_own {tk:Tok} {Q:Fin→Shared→Prop} (X:K.In h) (G:ClsK K C) (hx:h.get? a=some o) (hc:o.cls=.ref C) (hq:Q (.done (.ret (.ref C))) ⟨h,g,d,t,os⟩) :
    wpAny (model prog w) A (Builtin.«object.__getattribute__» ⟨[.ref a, .str "__class__" tk], []⟩) Q E ⟨h, g, d, t, os⟩ := by
  have hT5:(⟨h,g,d,t,os⟩:Shared).TypeIs (.builtin "object.__class__") "getset_descriptor" := F.typeOf_object_class
  have L:=PySem.W.looks_findIn (M:=model prog w) X G.cl
  have f5:=F.typeOf_object_class
  have f6:=F.slot_gs_get.lookup
  have f7:=F.slot_gs_set.lookup
  repeat (any_goals (first | assumption | (with_reducible refine wpAny_loadPart_at hx ?_; rw [hc]) | with_reducible refine wpAny_bind (L.at ?_) | with_reducible refine L.at ?_ | wp_step))
  refine class_get_own X G hx hc ?_
  repeat (any_goals (first | assumption | wp_step))
theorem check_ga_own {M:Model} {nameV:Value} {Q:Unit→Shared→Prop} (X:K.In h) (G:ClsK K C) (hx:h.get? a=some o) (hc:o.cls=.ref C) (hq:Q () ⟨h,g,d,t,os⟩):wpAny M A (checkBuiltinCall "BaseException.__getattribute__" ⟨[.ref a,nameV],[]⟩) Q E ⟨h,g,d,t,os⟩:=by
  have hk:builtinKind "BaseException.__getattribute__" = some .slot:=by decide +kernel
  have hsplit:splitId "BaseException.__getattribute__" = some ("BaseException", "__getattribute__"):=by decide +kernel
  have L:=PySem.W.looks_mroIn (M:=M) X G.be
  have ha:=F.args_bexc_ga (.ref a) nameV
  simp only [checkBuiltinCall,hk,hsplit]
  refine wpAny_bind ?_
  · unfold isInstance
    repeat (first | (with_reducible refine wpAny_loadPart_at hx ?_; rw [hc]) | with_reducible refine wpAny_bind (L.at ?_) | with_reducible refine L.at ?_ | wp_step)
    exact hq
theorem class_call_own {tk:Tok} {R:Result→Shared→Prop} (X:K.In h) (G:ClsK K C) (hx:h.get? a=some o) (hc:o.cls=.ref C) (hq:R (.ok (.ret (.ref C))) ⟨h,g,d,t,os⟩) :
    codeAny (model prog w) A (.call (.builtin "BaseException.__getattribute__") ⟨[.ref a,.str "__class__" tk],[]⟩) R ⟨h,g,d,t,os⟩ :=
  codeAny_call_builtin F.excAttr_ValueError.ga.plain F.entry_bexc_ga (check_ga_own X G hx hc (class_entry_own X G hx hc hq))
theorem class_by_own {tk:Tok} {Q:Value→Shared→Prop} (X:K.In h) (G:ClsK K C) (hx:h.get? a=some o) (hc:o.cls=.ref C) (hq:Q (.ref C) ⟨h,g,d,t,os⟩):wpAny (model prog w) A (getAttrBy (.ref a) (.str "__class__" tk) false) Q E ⟨h,g,d,t,os⟩:=by
  have f3:=F.excAttr_ValueError.ga.bind (.ref a)
  have hx2:(Value.builtin "BaseException.__getattribute__" == Value.builtin "object.__getattribute__")=false:=by decide +kernel
  have hx1:(onTheHeap (Value.ref C) && Value.builtin "BaseException.__getattribute__" == Value.builtin "object.__getattribute__")=false:=by rw [hx2]; rfl
  have L1:=PySem.W.looks_findIn (M:=model prog w) X G.ga
  have L2:=PySem.W.looks_findIn (M:=model prog w) X G.gt
  repeat (any_goals (first | assumption | (with_reducible refine wpAny_loadPart_at hx ?_; rw [hc]) | with_reducible refine wpAny_bind (L1.at ?_) | with_reducible refine L1.at ?_ | with_reducible refine wpAny_bind (L2.at ?_) | with_reducible refine L2.at ?_ | wp_step))
  refine class_call_own X G hx hc ?_
  repeat (any_goals (first | assumption | wp_step))
theorem class_attr_own {Q:Option Value→Shared→Prop} (X:K.In h) (G:ClsK K C) (hx:h.get? a=some o) (hc:o.cls=.ref C) (hq:Q (some (.ref C)) ⟨h,g,d,t+1,os⟩):wpAny (model prog w) A (getAttr? (.ref a) "__class__") Q E ⟨h,g,d,t,os⟩:=by
  unfold getAttr? getAttrBy?
  repeat (any_goals (first | assumption | with_reducible apply class_by_own X G hx hc | wp_step))
theorem kitx_ownexc {K:PySem.W.Frag} {a C:Addr} (G:ClsK K C):PySem.W.KitX K (.ref a) (.ref C) (fun h=>∃ o,h.get? a=some o∧o.cls=.ref C) where
  ty:=fun M h X ⟨o,e,c⟩=>by
    have:=(PySem.W.Looks.ld (M:=M) (part:=none) e)
    intro A Q E s k q
    exact (by first | exact wpAny_bind (wpAny_loadPart (k _ _ e) (wpAny_pure (by rw [c]; exact q))) | (unfold typeOf loadHead; exact wpAny_bind (wpAny_loadPart (k _ _ e) (wpAny_pure (by rw [c]; exact q)))) | (unfold typeOf; exact wpAny_bind (wpAny_loadPart (k _ _ e) (wpAny_pure (by rw [c]; exact q)))))
  it:=fun M h X _=>by
    have z0:=G.is
    unfold PySem.W.clsIn at z0
    split at z0
    · rename_i c' d' cd' sl' ho
      intro A' Q' E' s' k q
      unfold isType loadHead
      exact wpAny_bind (wpAny_loadPart (k _ _ (X _ _ ho)) (wpAny_pure q))
    · cases z0
  ne := fun h tp dd its n sl X e => by
    have z0:=G.is
    unfold PySem.W.clsIn at z0
    split at z0
    · rename_i c' d' cd' sl' ho
      by_cases z:C=tp
      · have:=X _ _ ho
        rw [z,e] at this
        cases this
      · simpa using z
    · cases z0
  ca:=fun {prog w A E Q s} X ⟨o,e,c⟩ q=>by
    obtain ⟨h,g,d,t,os⟩:=s
    exact class_attr_own X G e c q
end
end L3
end
section
namespace L3
open PySem PySem.Spec PyProof.Rows L2
theorem call_isX {X:Cx} {a C:Addr} {oe:Obj} (hp:(a,oe)∈X.pn) (hc:oe.cls=.ref C):CallR X (.builtin "isinstance") (fun xs H Q=>∃ y c b,xs=[.ref a,y]∧ClsK X.K C∧(∀ u,RelV y u→u=c)∧PySem.W.kitOne X.K (.ref C) c=some b∧Q (.bl b) H):=by
  intro pins s σ H xs us Q I r h
  obtain ⟨y,c,b,rfl,G,inj,e,q⟩:=h
  obtain ⟨u,v,rfl,ru,rv⟩:=r.two
  cases ru
  obtain rfl:=inj v rv
  exact PySem.W.kia_one (kitx_ownexc G) I.kIn ⟨oe,(I.pin (a,oe) (List.mem_append_left _ hp)).1,hc⟩ e (fun z=>nomatch z) fun tk=>⟨.bl b,H,I.tok tk,rfl,q⟩
section
variable {X:Cx} {pins:List (Addr×Obj)} {σ:L2.St} {H:Hp} {s:Shared} {a:Addr} {D:List (Str×V)} {k:Str} {tk:Tok} {A:Around} {E:Value→Shared→Prop}
end
structure ERec (a e it:Addr) (i:Nat) (h:Heap):Prop where
  e:∃ old,IsEnum h e it i old
  it:h.IsListIter it a i
end L3
end
section
namespace L3
open PySem PySem.Spec PyProof.Rows L2
theorem cxK {CX:CXT} {P:Program} {w:World} {K:PySem.W.Frag} {mg:Str→Option Value} {base:Heap} {N:List Str} {qual:Str} {scope:Scope} {f:Addr} {cd:Value} {A:Around} {outer:List Env} {s:Shared} {H:Hp} {E:XK}:(cxOf CX P w K mg base N qual scope f cd A outer s H E).nox.K=K:=rfl
end L3
end
section
namespace L3
open PySem L2
theorem let2 {t1 t2:TS} {D:Ends} {σ:L2.St} {H:Hp} (h:let D0:Ends:=D; let v2:TS:=t2; tSeq t1 v2 D0 σ H):(tSeq t1 (t2)) D σ H:=h
theorem let3 {t1 t2 t3:TS} {D:Ends} {σ:L2.St} {H:Hp} (h:let D0:Ends:=D; let v3:TS:=t3; let v2:TS:=tSeq t2 v3; tSeq t1 v2 D0 σ H):(tSeq t1 (tSeq t2 (t3))) D σ H:=h
theorem let4 {t1 t2 t3 t4:TS} {D:Ends} {σ:L2.St} {H:Hp} (h:let D0:Ends:=D; let v4:TS:=t4; let v3:TS:=tSeq t3 v4; let v2:TS:=tSeq t2 v3; tSeq t1 v2 D0 σ H):(tSeq t1 (tSeq t2 (tSeq t3 (t4)))) D σ H:=h
theorem let6 {t1 t2 t3 t4 t5 t6:TS} {D:Ends} {σ:L2.St} {H:Hp} (h:let D0:Ends:=D; let v6:TS:=t6; let v5:TS:=tSeq t5 v6; let v4:TS:=tSeq t4 v5; let v3:TS:=tSeq t3 v4; let v2:TS:=tSeq t2 v3; tSeq t1 v2 D0 σ H):(tSeq t1 (tSeq t2 (tSeq t3 (tSeq t4 (tSeq t5 (t6)))))) D σ H:=h
theorem let7 {t1 t2 t3 t4 t5 t6 t7:TS} {D:Ends} {σ:L2.St} {H:Hp} (h:let D0:Ends:=D; let v7:TS:=t7; let v6:TS:=tSeq t6 v7; let v5:TS:=tSeq t5 v6; let v4:TS:=tSeq t4 v5; let v3:TS:=tSeq t3 v4; let v2:TS:=tSeq t2 v3; tSeq t1 v2 D0 σ H):(tSeq t1 (tSeq t2 (tSeq t3 (tSeq t4 (tSeq t5 (tSeq t6 (t7))))))) D σ H:=h
end L3
namespace KM
theorem q1 {x:PySem.Str} {a:D} {k n:Nat} (h:depth a+(k+1)≤n):depth (.tup [.str x,a])+k≤n:=by simp only [depth,depthL]; omega
theorem q2 {x:PySem.Str} {a b:D} {k n:Nat} (h1:depth a+(k+1)≤n) (h2:depth b+(k+1)≤n):depth (.tup [.str x,a,b])+k≤n:=by simp only [depth,depthL]; omega
theorem q3 {x:PySem.Str} {a b c:D} {k n:Nat} (h1:depth a+(k+1)≤n) (h2:depth b+(k+1)≤n) (h3:depth c+(k+1)≤n):depth (.tup [.str x,a,b,c])+k≤n:=by simp only [depth,depthL]; omega
end KM
namespace L3
open PySem L2
theorem by0 {P:List Value→Prop} (h:P []):∀ us:List Value,us.length=0→P us:=fun us e=>by rw [List.length_eq_zero_iff.mp e]; exact h
theorem byS {P:List Value→Prop} {n:Nat} (h:∀ a us,us.length=n→P (a::us)):∀ us:List Value,us.length=n+1→P us
  | [],e=>nomatch e
  | a::us,e=>h a us (Nat.succ.inj e)
theorem by1 {P:List Value→Prop} (h:∀ a,P [a]):∀ us:List Value,us.length=1→P us:=byS fun a=>by0 (h a)
theorem by2 {P:List Value→Prop} (h:∀ a b,P [a,b]):∀ us:List Value,us.length=2→P us:=byS fun a=>by1 (h a)
theorem by3 {P:List Value→Prop} (h:∀ a b c,P [a,b,c]):∀ us:List Value,us.length=3→P us:=byS fun a=>by2 (h a)
theorem by4 {P:List Value→Prop} (h:∀ a b c d,P [a,b,c,d]):∀ us:List Value,us.length=4→P us:=byS fun a=>by3 (h a)
theorem by5 {P:List Value→Prop} (h:∀ a b c d e,P [a,b,c,d,e]):∀ us:List Value,us.length=5→P us:=byS fun a=>by4 (h a)
def DfIn (K:PySem.W.Frag) (x:Str) (st:Stmt):Prop:=∃ (f:Addr) (od an:Option Addr) (sl:Array (Option Value)) (oc kV dc pm cd ct:Value),PySem.W.nsIn K mainGlobals x=some (some (.ref f)) ∧
  K.lookup f=some ⟨oc,od,.func (PySem.W.fnOf x x (defArgs st) (defBody st) (defScope st) .none kV dc pm an cd ct),sl⟩∧PySem.W.codeIn K cd x=true∧PySem.W.keepIn K (.ref f)=true
theorem dfi {K:PySem.W.Frag} {x:Str} {st:Stmt} {f:Addr} {od an:Option Addr} {sl:Array (Option Value)} {oc kV dc pm cd ct:Value} (a:PySem.W.nsIn K mainGlobals x=some (some (.ref f)))
    (l:K.lookup f=some ⟨oc,od,.func (PySem.W.fnOf x x (defArgs st) (defBody st) (defScope st) .none kV dc pm an cd ct),sl⟩) (c:PySem.W.codeIn K cd x=true) (k:PySem.W.keepIn K (.ref f)=true):DfIn K x st :=
  ⟨f,od,an,sl,oc,kV,dc,pm,cd,ct,a,l,c,k⟩
theorem DfIn.df {K:PySem.W.Frag} {h:Heap} {mg:Str→Option Value} {x:Str} {st:Stmt} {ps:List Str} (D:DfIn K x st) (X:K.In h) (G:h.Ns mainGlobals mg)
    (b:∀ (kV doc pm:Value) (an:Option Addr) (cdv ct:Value) (us:List Value),us.length=ps.length→bindArgs (PySem.W.fnOf x x (defArgs st) (defBody st) (defScope st) .none kV doc pm an cdv ct) ⟨us,[]⟩=pure (ps.zip us)):Df K mg x st ps:=by
  obtain ⟨f,od,an,sl,oc,kV,dc,pm,cd,ct,a,l,c,k⟩:=D
  exact ⟨f,_,fun_mk l c k,PySem.W.mg_of X G a,(fun_mk l c k).binds b⟩
end L3
end
section
namespace K55
open PySem L2 L3 KM
def top (i:Nat):Stmt:=PySem.Challenge.pw_keeper_k55_texts_too_great.main.body.getD i (.Pass ⟨0,0,0,0⟩)
abbrev s_is_name:Stmt:=top 14
abbrev s_is_vast:Stmt:=top 15
abbrev s_kids_of:Stmt:=top 16
abbrev s_top_variable:Stmt:=top 17
abbrev s_bounded:Stmt:=top 18
abbrev s_words_of:Stmt:=top 20
abbrev s_form_of:Stmt:=top 25
abbrev s_thing_named:Stmt:=top 26
abbrev s_is_figure:Stmt:=top 27
abbrev s_count_of:Stmt:=top 28
abbrev s_leaf_of:Stmt:=top 29
abbrev s_read_thing:Stmt:=top 30
abbrev s_read_term:Stmt:=top 31
abbrev s_law_cell_at:Stmt:=top 33
abbrev s_law_told:Stmt:=top 34
abbrev s_law_chain:Stmt:=top 35
abbrev s_law_tree:Stmt:=top 36
abbrev s_law_far:Stmt:=top 37
abbrev s_law_figures:Stmt:=top 38
abbrev s_law_made:Stmt:=top 39
abbrev s_law_nexts:Stmt:=top 40
abbrev s_law_near:Stmt:=top 41
abbrev s_law_kind:Stmt:=top 42
abbrev s_law_over_kind:Stmt:=top 43
abbrev s_law:Stmt:=top 44
abbrev s_Form_init:Stmt:=inClass (top 24) 0
abbrev s_Form_binds_here:Stmt:=inClass (top 24) 1
abbrev s_Form_is_full:Stmt:=inClass (top 24) 2
abbrev s_Form_take:Stmt:=inClass (top 24) 3
abbrev s_Form_closed:Stmt:=inClass (top 24) 4
structure Adr where
  none_:Unit:=()
  KIND_WORDS:Addr
  KIDS_DUE:Addr
  BINDER_OVER:Addr
  KeeperError:Addr
  Great:Addr
  NoText:Addr
  Form:Addr
structure Mg (mg:Str→Option Value) (t:Adr):Prop where
  n_all:mg "all" = none
  n_int:mg "int" = none
  n_isinstance:mg "isinstance" = none
  n_len:mg "len" = none
  n_list:mg "list" = none
  n_max:mg "max" = none
  n_range:mg "range" = none
  n_reversed:mg "reversed" = none
  n_str:mg "str" = none
  n_tuple:mg "tuple" = none
  g_MOST_KNOTS:∃ tk,mg "MOST_KNOTS" = some (.int 600 tk)
  g_MOST_DEEP:∃ tk,mg "MOST_DEEP" = some (.int 40 tk)
  g_MOST_VARIABLE:∃ tk,mg "MOST_VARIABLE" = some (.int 99 tk)
  g_MOST_LETTERS:∃ tk,mg "MOST_LETTERS" = some (.int 12 tk)
  g_LETTERS:∃ tk,mg "LETTERS" = some (.str "abcdefghijklmnopqrstuvwxyz" tk)
  g_KIND_WORDS:mg "KIND_WORDS" = some (.ref t.KIND_WORDS)
  g_KIDS_DUE:mg "KIDS_DUE" = some (.ref t.KIDS_DUE)
  g_BINDER_OVER:mg "BINDER_OVER" = some (.ref t.BINDER_OVER)
  g_FIGURES:∃ tk,mg "FIGURES" = some (.str "0123456789" tk)
  g_MOST_FIGURE:∃ tk,mg "MOST_FIGURE" = some (.int 39 tk)
  g_KeeperError:mg "KeeperError" = some (.ref t.KeeperError)
  g_Great:mg "Great" = some (.ref t.Great)
  g_NoText:mg "NoText" = some (.ref t.NoText)
  g_Form:mg "Form" = some (.ref t.Form)
seal L2.PE L2.PS L2.PSs L2.PT L2.PW L2.PA L2.PG L2.PGs L2.PI L2.PC L2.PO L2.PPs L2.PK L3.PIf
variable {P:Program} {w:World} {K:PySem.W.Frag} {mg:Str→Option Value} {base:Heap} {f:Addr} {fd:FuncData}
def cellN (ns:List Int) (k:Nat):Int:=(ns[k]?).getD 0
def spCell (K:PySem.W.Frag):Sp:=fun vs H Q _=>∃ (a:Addr) (ns:List Int) (k:Nat),vs=[.ref a,.int k]∧SqL K H a (ns.map V.int)∧Q (.int (cellN ns k)) H
theorem scCell:FnScope ["_law_script", "_law_k"] ["_law_script", "_law_k"] (defScope s_law_cell_at):=⟨rfl,rfl,rfl,by decide +kernel,rfl,by decide +kernel,by decide +kernel⟩
theorem ok_cell (F:Fun K "_law_cell_at" "_law_cell_at" s_law_cell_at f fd) (ml:mg "len" = none):FnOk P w K mg base CX0 1 f fd ["_law_script", "_law_k"] (spCell K):=by
  refine F.ok scCell (fun vs H Q E h=>?_) (fun cdv A outer s H vs Q E hr h=>?_)
  · obtain ⟨a,ns,k,rfl,_⟩:=h
    rfl
  obtain ⟨a,ns,k,rfl,hS,q⟩:=h
  refine ⟨_,pss_cons (ps_if (pt_cmpR op_lt (pv 1) (pe_callB call_len_seq rfl ml PySem.boot_len (pa_cons (pv 0) pa_nil)) (nomark _)) (pss_one (ps_ret (pe_ix ix_list (pv 0) (pv 1) (fun _ _=>rfl)))) pss_nil) (pss_one (ps_ret pe_int)),?_⟩
  refine ⟨_,rfl,_,rfl,a,_,rfl,.inl hS,_,_,rfl,rfl,_,rfl,?_⟩
  have hl:(ns.map V.int).length=ns.length:=List.length_map _
  refine ite2 (fun c=>?_) (fun c=>?_)
  · have c':(k:Int)<(((ns.map V.int).length:Nat):Int):=of_decide_eq_true c
    have hk:k<ns.length:=by rw [hl] at c'; omega
    have e:cellN ns k=ns[k]:=by unfold cellN; simp [hk]
    rw [e] at q
    exact ⟨_,rfl,_,rfl,a,_,_,_,rfl,rfl,hS,atI_nat (by rw [List.getElem?_map,List.getElem?_eq_getElem hk] <;> rfl),q⟩
  · have c':¬ (k:Int)<(((ns.map V.int).length:Nat):Int):=of_decide_eq_false (Bool.eq_false_iff.mpr c)
    have hk:ns.length≤k:=by rw [hl] at c'; omega
    have e:cellN ns k=0:=by unfold cellN; rw [List.getElem?_eq_none hk]; rfl
    rw [e] at q
    exact q
variable {P:Program} {w:World} {K:PySem.W.Frag} {mg:Str→Option Value} {base:Heap} {f:Addr} {fd:FuncData}
def tab1:List (Key×V):=[(.inr "nat",.str ""),(.inr "none",.str ""),(.inr "zero",.str ""),(.inr "all",.str "kk"),(.inr "some",.str "kk"),(.inr "same",.str "ktt"),(.inr "fun",.str "kt"),(.inr "app",.str "tt")]
def tab2:List (Key×V):=[(.inr "next",.str "t"),(.inr "rec",.str "kttt"),(.inr "like",.str "kt"),(.inr "carry",.str "ktt"),(.inr "never",.str "kt"),(.inr "pair",.str "ktt"),(.inr "first",.str "t")]
def tab3:List (Key×V):=[(.inr "second",.str "t"),(.inr "var",.str "n"),(.inr "name",.str "w")]
def shapeV (x : Str) : V := match valV tab1 (Sum.inr x : Key) with
  | some v=>v
  | none=>match valV tab2 (Sum.inr x:Key) with
    | some v=>v
    | none=>(valV tab3 (Sum.inr x:Key)).getD .non
def kindW (w:Str):Bool:=inV (.str w) [.str "nat",.str "none",.str "all",.str "some",.str "same"]
def numD:D→Bool
  | .int i=>decide (0≤i)
  | _=>false
mutual
def wfG (nm : D → Bool) (k : Bool) : D → Bool
  | .tup (.str w::ps)=>match shapeV w with
    | .str s=>(kindW w==k) && wfL nm s.cps.toList ps
    | _=>false
  | _=>false
def wfL (nm:D→Bool):List Nat→List D→Bool
  | [],[]=>true
  | c::cs,p::ps=>(if c=107 then wfG nm true p else if c=116 then wfG nm false p else if c=110 then numD p else nm p) && wfL nm cs ps
  | _,_=>false
end
def dueB (nm:D→Bool) (c:Nat) (p:D):Bool:=if c=107 then wfG nm true p else if c=116 then wfG nm false p else if c=110 then numD p else nm p
theorem wfL_cons (nm:D→Bool) (c:Nat) (cs:List Nat) (p:D) (ps:List D):wfL nm (c::cs) (p::ps)=(dueB nm c p && wfL nm cs ps):=by rw [wfL]; rfl
theorem wfG_mk {nm:D→Bool} {k:Bool} {w s:Str} {ps:List D} (h1:shapeV w=.str s) (h2:kindW w=k) (h3:wfL nm s.cps.toList ps=true):wfG nm k (.tup (.str w::ps))=true:=by
  rw [wfG,h1]
  simp [h2,h3]
theorem shape_var:shapeV "var" = .str "n" := by decide +kernel
theorem shape_name:shapeV "name" = .str "w" := by decide +kernel
theorem kind_var:kindW "var" = false:=by decide +kernel
theorem kind_name:kindW "name" = false:=by decide +kernel
theorem len_n:(Str.ofString "n").cps.toList=[110]:=by decide +kernel
theorem len_w:(Str.ofString "w").cps.toList=[119]:=by decide +kernel
theorem wf_var {nm:D→Bool} {z:Int} (h0:0≤z) (h1:z≤99):wfG nm false (.tup [.str "var",.int z])=true:=by
  refine wfG_mk shape_var kind_var ?_
  rw [len_n,wfL_cons]
  simp [dueB,numD,h0,h1,wfL]
theorem wf_name {nm:D→Bool} {y:Str} (h:nm (.str y)=true):wfG nm false (.tup [.str "name",.str y])=true:=by
  refine wfG_mk shape_name kind_name ?_
  rw [len_w,wfL_cons]
  simp [dueB,h,wfL]
variable {P:Program} {w:World} {K:PySem.W.Frag} {mg:Str→Option Value} {base:Heap} {f fN fM fS:Addr} {fd fdN fdM fdS:FuncData}
def w0 (k:Bool):Str:=if k then "nat" else "var"
variable {t:Adr}
end K55
end
section
namespace L3
open PySem PySem.Spec PyProof.Rows L2 KM
theorem cat_tup0 {prog:Program} {w:World} {A:Around} {E:Value→Shared→Prop} {s:Shared} {t b:Addr} {ws:List Value} {Q:Value→Shared→Prop} (ht:IsTup s.heap t (([]:List Value)).toArray) (hb:IsTup s.heap b ws.toArray) (h1:Q (.ref b) s) :
    wpAny (model prog w) A (binaryOp .Add (.ref t) (.ref b)) Q E s:=by
  obtain ⟨⟨cls,dd,data,sl⟩,ho,hc,n,hd⟩:=id ht
  obtain ⟨⟨cls2,dd2,data2,sl2⟩,ho2,hc2,n2,hd2⟩:=id hb
  simp only at hc hd hc2 hd2
  subst hc hd hc2 hd2
  exact concat_meets ⟨_,ho,rfl⟩ ⟨_,ho2,rfl⟩ noFill_tuple_add seq_tuple_add PySem.F.slot_tuple_add PySem.F.entry_tuple_add (PySem.F.args_tuple_add_2 _ _) (tuple_addW0 t b _ ws.toArray n n2 dd dd2 sl sl2 (by simp)) ⟨ho,ho2,h1⟩
def rCat0 (K:PySem.W.Frag):R2:=fun x y H Q=>∃ a b xs ys,x=.ref a∧y=.ref b∧SqT K H a xs∧SqT K H b ys∧xs.length+ys.length≤sizeLine∧(xs=[]→Q (.ref b) H)∧(xs≠[]→ys=[]→Q (.ref a) H) ∧
  (xs≠[]→ys≠[]→∀ p,H p=none→Q (.ref p) (upd H p (.tup (xs++ys))))
theorem op_cat0 {X:Cx}:OpR X (binaryOp .Add) (rCat0 X.K):=by
  intro pins s σ H x y v u Q I rx ry h
  obtain ⟨a,b,xs,ys,rfl,rfl,ha,hb,hz,q0,q1,q2⟩:=h
  by_cases hx:xs=[]
  · cases rx
    cases ry
    subst hx
    obtain ⟨its,r1,p1,_⟩:=I.tuple ha
    obtain ⟨its2,r2,p2,_⟩:=I.tuple hb
    have e:its=[]:=r1.nil_iff.mpr rfl
    subst e
    exact cat_tup0 p1 p2 ⟨.ref b,H,I,rfl,q0 rfl⟩
  · exact op_catT pins s σ H _ _ v u Q I rx ry ⟨a,b,xs,ys,rfl,rfl,ha,hb,hx,hz,q1 hx,q2 hx⟩
def rCatU:R2:=fun x y H Q=>∃ a b xs ys,x=.ref a∧y=.ref b∧H a=some (.tup xs)∧H b=some (.tup ys)∧xs.length+ys.length≤sizeLine∧∀ p H',Same H H'→H' p=some (.tup (xs++ys))→Q (.ref p) H'
theorem op_catU {X:Cx}:OpR X (binaryOp .Add) rCatU:=by
  intro pins s σ H x y v u Q I rx ry h
  obtain ⟨a,b,xs,ys,rfl,rfl,ha,hb,hz,q⟩:=h
  refine op_cat0 pins s σ H _ _ v u Q I rx ry ⟨a,b,xs,ys,rfl,rfl,SqT.of ha,SqT.of hb,hz,fun e=>?_,fun _ e=>?_,fun _ _ p hp=>q p _ (same_new hp _) upd_same⟩
  · subst e
    exact q b H (Same.refl H) hb
  · subst e
    exact q a H (Same.refl H) (by rw [List.append_nil]; exact ha)
theorem call_isXK {X:Cx} {K:PySem.W.Frag} {a C:Addr} {oe:Obj} (hp:(a,oe)∈X.pn) (hc:oe.cls=.ref C) (hK:X.K=K:=by rfl):CallR X (.builtin "isinstance") (fun xs H Q=>∃ y c b,xs=[.ref a,y]∧ClsK K C∧(∀ u,RelV y u→u=c)∧PySem.W.kitOne K (.ref C) c=some b∧Q (.bl b) H):=by subst hK; exact call_isX hp hc
end L3
namespace L3
open PySem PySem.Spec PyProof.Rows L2
end L3
end
section
namespace L3
open PySem PySem.Spec PyProof.Rows L2 KM
theorem get_le_sum:∀ (ns:List Nat) (k:Nat),(ns[k]?).getD 0≤ns.sum
  | [],_=>by simp
  | n::ns,0=>by simp
  | n::ns,k+1=>by
    have:=get_le_sum ns k
    simp only [List.getElem?_cons_succ,List.sum_cons]
    omega
end L3
end
section
namespace L3
open PySem PySem.Spec PyProof.Rows L2 KM
theorem comp_ints {J:It} {p:Addr} {H1:Hp} {g:TG} {te:TE} {b:L2.St} {C:Hp→Prop} (n:Nat) (B:Nat→Int→Prop) (hp:H1 p=none) (hn:n≤sizeLine)
    (hgo:∀ i H2,i<n→Same H1 H2→J.go i H2∧∀ x H3,J.yld i H2 x H3→∀ (R:V→Hp→Prop),(∀ (z:Int) H6,Same H2 H6→B i z→R (.int z) H6)→g x b H3 fun σ4 H4=>te σ4 H4 R)
    (hd:∀ (ns:List Int) H2,Same H1 H2→ns.length=n→(∀ (i:Nat) (z:Int),ns[i]?=some z→B i z)→H2 p=some (.lst (ns.map V.int))→J.stop n H2∧C H2) :
    ∃ W:Nat→Nat→List V→Hp→Prop,(∃ m,W 0 m [] (upd H1 p (.lst [])))∧∀ i m acc H2,W i m acc H2→(J.stop i H2∧C H2)∨(J.go i H2∧∀ x H3,J.yld i H2 x H3→g x b H3 fun σ4 H4=>tYes σ4 H4 fun ok H5 =>
      if ok=true then te σ4 H5 fun v H6=>H6 p=some (.lst acc)∧acc.length<sizeLine∧∃ m',m'<m∧W (i+1) m' (acc++[v]) (upd H6 p (.lst (acc++[v]))) else ∃ m',m'<m∧W (i+1) m' acc H5):=by
  refine comp_by (Q:=fun _ H=>C H) n (fun i acc H2=>∃ ns:List Int,acc=ns.map V.int∧ns.length=i∧(∀ (j:Nat) (z:Int),ns[j]?=some z→B j z)∧H2 p=some (.lst acc)∧Same H1 H2) ⟨[],rfl,rfl,fun j z e=>by simp at e,upd_same,same_new hp _⟩ ?_ ?_
  · rintro i acc H2 hi ⟨ns,rfl,hl,hB,h2,s2⟩
    obtain ⟨g1,g2⟩:=hgo i H2 hi s2
    refine ⟨g1,fun x H3 y=>?_⟩
    simp only [tYes,if_true]
    refine g2 x H3 y _ fun z H6 s6 hz=>⟨s6 _ _ h2,by rw [List.length_map]; omega,nx hi ⟨ns++[z],by simp,by simp [hl],fun j y e=>?_,upd_same,same_upd (s2.trans s6) hp⟩⟩
    by_cases hj:j<ns.length
    · rw [List.getElem?_append_left hj] at e
      exact hB j y e
    · rw [List.getElem?_append_right (by omega)] at e
      have:j-ns.length=0:=by
        by_cases q:j-ns.length=0
        · exact q
        · rw [List.getElem?_eq_none (by simp; omega)] at e; cases e
      rw [this] at e
      simp at e
      subst e
      have:j=i:=by omega
      rw [this]
      exact hz
  · rintro acc H2 ⟨ns,rfl,hl,hB,h2,s2⟩
    exact hd ns H2 s2 hl hB h2
end L3
namespace L3
open PySem PySem.Spec PyProof.Rows L2 KM
end L3
end
section
namespace L3
open PySem PySem.Spec PyProof.Rows L2
theorem ps_setC {X:Cx} {ix:Nat} {x:Str} {pos' apos:Pos} {tg iter elt:Expr} {ifs:List Expr} {scope:Scope} {pos:Pos} {wi:TI} {g:TG} {tt:TT} {te:TE} {N':List Str} {own:Nat} {fr:List Nat} (hN:X.N.Nodup) (hix:X.N[ix]?=some x) (hlx:X.env.scope.names.lookup x=some .local) (hc:X.calm=true)
    (S:BlkScope X N' own fr scope) (hi:PI X tg iter wi) (ho:Own own g) (hg:∀ s3 H3 fp,PG (blkCx X N' scope s3 H3 fp) tg g) (hf:∀ s3 H3 fp,PIf (blkCx X N' scope s3 H3 fp) ifs tt) (he:∀ s3 H3 fp,PE (blkCx X N' scope s3 H3 fp) elt te)
    (hsw:swapsWithSole [.Name x pos'] (.ListComp elt [⟨tg,iter,ifs,0⟩] scope pos) apos.line X.env=pure true:=by rfl)
    (hs:∀ x,foldedSetIterable iter X.env x=pure x:=by intro _; rfl):PS X (.Assign [.Name x pos'] (.ListComp elt [⟨tg,iter,ifs,0⟩] scope pos) apos) (tAsg (tComp own fr wi g tt te) (gName ix)):=by
  intro pins s σ H D I h
  have hcs:∀ x∈scope.names,x.2=.free→∃ c,X.env.cells.lookup x.1=some c:=fun x hx e=>I.ok.has x.1 (S.free x hx e)
  rw [exec_Assign_arm]
  refine wpAny_bind (wpAny_standAt (wpAny_bind (wpAny_of_eq hsw ?_)))
  rw [if_pos rfl,arm_evalThenUse_ListComp]
  refine wpAny_bind (wpAny_bind (wpAny_mono (Q:=fun _ s'=>SP X pins D .next s') ?_ (fun _ s' q=>wpAny_pure (wpAny_pure q)) fun _ _ z=>z))
  refine wpAny_comprehension_free (use:=some _) (Q:=fun _ s'=>SP X pins D .next s') rfl hs (closedC_eq hcs) S.kind S.loc ?_
  refine thn (hi pins s σ H _ I h) fun v s1 h1=>thn h1 fun itv s2 h2=>?_
  obtain ⟨it,fp,tn,J,H2,e,I2,T,st2,f2,h2⟩:=h2
  subst e
  refine wpAny_newObj_type (hd:=by size_fits) (wpAny_newFunctionEnv S.nocell (by intro y hy; simp at hy) (fun h4 hns hsb=>?_) S.kind)
  have hp0:=I2.hok.fresh (Nat.le_refl s2.heap.objs.size)
  obtain ⟨W,⟨m0,w0⟩,turn⟩:=h2 _ hp0
  have I3:Inv X pins σ (upd H2 s2.heap.objs.size (.lst [])) { s2 with heap:=s2.heap.push { cls:=.type "list",dict:=none,data:=.seq ([]:List Value).toArray },toks:=s2.toks }:=I2.lnew .nil (Nat.zero_le _)
  have lt2:∀ b∈fp,b<s2.heap.objs.size:=fun b hb=>let ⟨o,e,_⟩:=T.obj _ _ st2 b hb; Heap.lt_size e
  have up2:∀ b o,s2.heap.get? b=some o→∀ ob:Obj,(s2.heap.push ob).get? b=some o:=fun b o e ob=>Heap.get?_push_of_some _ e
  have sz3:(s2.heap.push { cls:=.type "list",dict:=none,data:=.seq ([]:List Value).toArray }).objs.size=s2.heap.objs.size+1:=Heap.size_push ..
  revert hns hsb I3
  generalize e3:s2.heap.push { cls:=.type "list",dict:=none,data:=.seq ([]:List Value).toArray }=h3 at sz3 ⊢
  intro hns hsb I3
  have keep:∀ b o,h3.get? b=some o→h4.get? b=some o:=fun b o e=>(hsb.2 b (Nat.ne_of_lt (Heap.lt_size e))).trans (Heap.get?_push_of_some _ e)
  have fp3:∀ b∈fp,FpOk X pins (upd H2 s2.heap.objs.size (.lst [])) b∧b<h3.objs.size:=fun b hb=>by
    refine ⟨⟨?_,(f2 b hb).2⟩,by rw [sz3]; exact Nat.lt_succ_of_lt (lt2 b hb)⟩
    rw [upd_ne (Nat.ne_of_lt (lt2 b hb))]
    exact (f2 b hb).1
  have I4:=blk_inv (t4:=s2.toks+([]:List (Str×Value)).length) S I3 fp3 keep hns
  have tn4:tn 0 h4:=T.keep _ _ _ st2 fun b hb o e=>keep b o (by rw [← e3]; exact up2 b o e _)
  have stat:∀ {H':Hp},(∀ b∈fp,H' b=none)→∀ b∈fp,FpOk (blkCx X N' scope { s2 with heap:=h3,toks:=s2.toks } (upd H2 s2.heap.objs.size (.lst [])) fp) [] H' b:=fun {H'} hn b hb =>
    ⟨hn b hb,Nat.ne_of_lt (fp3 b hb).2,fun z=>I4.ok.exfs b hb z,.inl hb,(I4.ok.exf b hb).2,fun p hp=>(f2 b hb).2.2.2.2.2 p (List.mem_append_left _ (by simpa using hp))⟩
  have loop:∀ sx:Shared,Inv (blkCx X N' scope { s2 with heap:=h3,toks:=s2.toks } (upd H2 s2.heap.objs.size (.lst [])) fp) [] (blkSt own fr σ) (upd H2 s2.heap.objs.size (.lst [])) sx→tn 0 sx.heap →
      codeAny (model X.prog X.w) X.A (.compLoop (.ListComp elt [⟨tg,iter,ifs,0⟩] scope pos) 0 (.ref it) (.ref s2.heap.objs.size) (blkEnv X scope h3.objs.size)) (compPost (model X.prog X.w) X.A X.xe (some fun v=>assignAll v ((assignEach [.Name x pos'] X.env).map (·.2))) (fun _ s'=>SP X pins D .next s') (.ref s2.heap.objs.size) h3.objs.size) sx:=by
    intro sx Ix tx
    refine compLoop_go (fun n s'=>∃ i acc H',Inv (blkCx X N' scope { s2 with heap:=h3,toks:=s2.toks } (upd H2 s2.heap.objs.size (.lst [])) fp) [] (blkSt own fr σ) H' s'∧tn i s'.heap∧(∀ b∈fp,H' b=none)∧W i n acc H') ?_ m0 ⟨0,[],_,Ix,tx,fun b hb=>(fp3 b hb).1.1,w0⟩
    rintro n s5 ⟨i,acc,H5,I5,st5,fr5,w5⟩
    rcases turn i n acc H5 w5 with ⟨stop,qn⟩ | ⟨go,step⟩
    · refine thn (T.done (blkCx X N' scope { s2 with heap:=h3,toks:=s2.toks } (upd H2 s2.heap.objs.size (.lst [])) fp) rfl rfl rfl hc i [] s5 _ H5 (fun _ _=>False) I5 (stat fr5) st5 stop) fun r s6 ⟨hr,I6⟩=>?_
      subst hr
      obtain ⟨m6,hm6,_⟩:=id I6.loc
      have I7:Inv X pins σ H5 s6:=I3.call' (s':=s6) (ch:=fp) I6.os (un_sameBut (h2:=s6.heap) I6.base (Nat.le_refl _) ⟨rfl,fun _ _=>rfl⟩) I6.hok I6.bare fun b hb=>⟨(f2 b hb).2.2.2.1,(f2 b hb).2.1,(f2 b hb).2.2.2.2.1,(f2 b hb).2.2.2.2.2⟩
      show wpAny _ _ (assign (.Name x pos') X.env (.ref s2.heap.objs.size)) _ _ _
      refine wpAny_assign_Name (store_ok2 (v:=.ref s2.heap.objs.size) I7 hN hix (.inl hlx) rfl (fun s8 I8 ⟨a8,sb8,ha8⟩=>?_) (.inr hlx))
      have ltc:∀ y c,X.env.cells.lookup y=some c→c<h3.objs.size:=fun y c e=>by
        obtain ⟨v,o,eo,_⟩:=I3.cell y c e
        exact Heap.lt_size eo
      have na8:h3.objs.size≠a8:=by
        rcases ha8 with z | z
        · rw [z]; exact Nat.ne_of_gt I3.lt
        · exact Nat.ne_of_gt (ltc _ _ z)
      obtain ⟨o6,es6,ep6,ho6,r6⟩:=hm6
      refine ⟨m6,⟨o6,es6,ep6,(sb8.2 _ na8).trans ho6,r6⟩,fun h9 hs9=>?_⟩
      have I9:=I8.turned (h':=h9) (t':=s8.toks) (it:=h3.objs.size) (fun b o hb e=>(hs9.2 b hb).trans e) I6.free (Nat.ne_of_gt I3.lt) (.inr I3.sz) (fun y c e=>Nat.ne_of_lt (ltc y c e)) fun p hp=>Nat.ne_of_lt (Heap.lt_size (I3.pin p hp).1)
      exact ⟨_,H5,I9,qn⟩
    · refine thn (T.item (blkCx X N' scope { s2 with heap:=h3,toks:=s2.toks } (upd H2 s2.heap.objs.size (.lst [])) fp) rfl rfl rfl hc i [] s5 _ H5 (fun _ _=>False) I5 (stat fr5) st5 go) fun r s6 ⟨u,hr,h6⟩=>?_
      subst hr
      refine thn h6 fun _ s7 ⟨x,H7,I7,r7,y7,st7,fr7⟩=>?_
      have I7':=I7.pinned (stat fr7) (T.obj _ _ st7)
      refine thn (hg _ _ _ _ s7 _ H7 x u _ I7' r7 (ho _ _ _ _ (step x H7 y7))) fun _ s8 ⟨σ8,H8,I8,q8,l8,k8⟩=>?_
      have again:∀ {H9:Hp} {s9:Shared},Inv (blkCx X N' scope { s2 with heap:=h3,toks:=s2.toks } (upd H2 s2.heap.objs.size (.lst [])) fp) ([]++pinsAt fp s7.heap) σ8 H9 s9 →
          Inv (blkCx X N' scope { s2 with heap:=h3,toks:=s2.toks } (upd H2 s2.heap.objs.size (.lst [])) fp) [] (blkSt own fr σ) H9 s9∧tn (i+1) s9.heap∧∀ b∈fp,H9 b=none:=fun {H9 s9} I9=>by
        refine ⟨I9.unpinned.weak l8.symm fun j v e=>?_,T.keep _ _ _ st7 fun b hb o e=>(I9.pin (b,o) (List.mem_append_right _ (List.mem_append_right _ (mem_pinsAt hb e)))).1,fun b hb=>?_⟩
        · have hj:own≤j:=by
            refine Nat.le_of_not_lt fun z=>?_
            unfold blkSt at e
            rw [List.getElem?_append_left (by simpa using z),List.getElem?_replicate] at e
            split at e <;> cases e
          rw [k8 j hj]
          exact e
        · obtain ⟨o,e,_⟩:=T.obj _ _ st7 b hb
          exact (I9.pin (b,o) (List.mem_append_right _ (List.mem_append_right _ (mem_pinsAt hb e)))).2.1
      refine thn (hf _ _ _ _ s8 σ8 H8 _ I8 q8) fun ok s9 ⟨H9,I9,q9⟩=>?_
      cases ok with
      | false =>
        obtain ⟨m',hm',w9⟩:=q9
        obtain ⟨a1,a2,a3⟩:=again I9
        exact ⟨m',hm',i+1,acc,H9,a1,a2,a3,w9⟩
      | true =>
        refine thn (he _ _ _ _ s9 σ8 H9 _ I9 q9) fun y s10 ⟨v,H10,I10,r10,hD10,hl10,m',hm',w10⟩=>?_
        refine thn (mt_append _ s10 σ8 H10 (.ref s2.heap.objs.size) [v] (.ref s2.heap.objs.size) [y] (fun _ Hn=>Hn=upd H10 s2.heap.objs.size (.lst (acc++[v]))) I10 rfl (.cons r10 .nil) ⟨_,acc,v,rfl,rfl,hD10,hl10,rfl⟩) fun _ s11 ⟨_,H11,I11,_,e11⟩=>?_
        subst e11
        obtain ⟨a1,a2,a3⟩:=again I11
        exact ⟨m',hm',i+1,acc++[v],_,a1,a2,a3,w10⟩
  exact codeAny_compStart_list (loop _ I4 tn4) (wpAny_mono (T.self X.A 0 _ (fun v s'=>v=.ref it∧s'=_) (fun _ _=>False) tn4 ⟨rfl,rfl⟩) (fun v s' ⟨e1,e2⟩=>by subst e1; subst e2; exact loop _ I4 tn4) fun _ _ f=>f.elim)
end L3
end
section
namespace L3
open PySem PySem.Spec PyProof.Rows L2 KM
end L3
end
section
namespace L3
open PySem PySem.Spec PyProof.Rows L2 KM
section
variable {X:Cx}
theorem strs_are:∀ {ys:List Str} {us:List Value},Vals (ys.map V.str) us→StrsAre us ys
  | [],_,.nil=>.nil
  | y::ys,_,.cons r t=>by
    obtain ⟨tk,rfl⟩:=(show ∃ t,_=Value.str y t from r)
    exact .cons y tk (strs_are t)
end
section
variable {X:Cx} {pins:List (Addr×Obj)} {σ:L2.St} {H:Hp} {s:Shared} {a:Addr} {D:List (Str×V)} {k:Str} {tk:Tok} {A:Around} {E:Value→Shared→Prop}
theorem tab_get2 {Q:Value→Shared→Prop} {x:V} {u0:Value} (T:TabK X.K a D) (I:Inv X pins σ H s) (rx:RelV x u0) (h:∀ w',RelV ((KTD.datumAt k D).getD x) w'→Q w' { s with toks:=s.toks+1 }):wpAny (model X.prog X.w) A (call (.builtin "dict.get") [.ref a,.str k tk,u0]) Q E s:=by
  have ty:=T.typeIs I
  refine wpAny_call_entry PySem.F.slot_dict_get ty PySem.F.entry_dict_get ?_ (PySem.F.args_dict_get_3 _ _ _)
  show wpAny (model X.prog X.w) _ (dictGet a (.str k tk) >>= _) _ _ s
  refine wpAny_bind (tab_get T I (fun v u e r=>?_) fun hn=>?_)
  · have h:=h u (by rw [e]; exact r)
    exact wpAny_pure ⟨u,rfl,h⟩
  · have h:=h u0 (by rw [hn]; exact rx)
    refine wpAny_bind ?_
    unfold Builtin.Dict.missed
    rw [T.sys]
    simp only [Bool.false_eq_true,if_false]
    exact wpAny_pure (wpAny_pure ⟨_,rfl,h⟩)
end
def tTGet2 (K:PySem.W.Frag) (td ty tx:TE):TE:=fun σ H Q=>td σ H fun x H1=>∃ a D,x=.ref a∧TabK K a D∧ty σ H1 fun y H2=>tx σ H2 fun z H3=>∃ k,y=.str k∧Q ((KTD.datumAt k D).getD z) H3
theorem pe_tget2 {X:Cx} {o e f:Expr} {apos cpos:Pos} {td ty tx:TE} (ho:PE X o td) (he:PE X e ty) (hf:PE X f tx) (m:M2 X o "get" apos e f cpos):PE X (.Call (.Attribute o "get" apos) [e,f] [] cpos) (tTGet2 X.K td ty tx):=by
  intro pins s σ H Q I h
  refine wpAny_Call_method m.base m.few m.line PySem.F.plainAttrs_dict PySem.F.slot_dict_get PySem.F.type_dict_get (thn (ho pins s σ H _ I h) fun u s1 ⟨x,H1,I1,rx,a,D,ex,T,q1⟩=>?_)
  subst ex
  obtain rfl:u=Value.ref a:=rx
  have t1:=T.typeIs I1
  refine ⟨t1,fun b q=>?_,?_⟩
  · cases q
    obtain ⟨o,_,_,e,x,_⟩:=T.ex
    exact ⟨o,I1.kIn a o e,x.2.1⟩
  rw [m.trees]
  refine Calls.callWith_builtin rfl (Calls.evalArgs_plain (Calls.spliced_cons (thn (he pins s1 σ H1 _ I1 q1) fun iv s2 ⟨y,H2,I2,ry,q2⟩ =>
    Calls.spliced_cons (thn (hf pins s2 σ H2 _ I2 q2) fun fv s3 ⟨z,H3,I3,rz,k,ey,q3⟩=>Calls.spliced_nil ?_))))
  subst ey
  obtain ⟨t,rfl⟩:=ry
  exact tab_get2 T I3 rz fun w' r=>⟨_,H3,I3.tok _,r,q3⟩
theorem comp_prop {J:It} {p:Addr} {H1:Hp} {g:TG} {te:TE} {b:L2.St} {C:Hp→Prop} (n:Nat) (B:Nat→V→Prop) (hp:H1 p=none) (hn:n≤sizeLine)
    (hgo:∀ i H2,i<n→Same H1 H2→J.go i H2∧∀ x H3,J.yld i H2 x H3→∀ (R:V→Hp→Prop),(∀ (z:V) H6,Same H2 H6→B i z→R z H6)→g x b H3 fun σ4 H4=>te σ4 H4 R)
    (hd:∀ (ns:List V) H2,Same H1 H2→ns.length=n→(∀ (i:Nat) (z:V),ns[i]?=some z→B i z)→H2 p=some (.lst ns)→J.stop n H2∧C H2) :
    ∃ W:Nat→Nat→List V→Hp→Prop,(∃ m,W 0 m [] (upd H1 p (.lst [])))∧∀ i m acc H2,W i m acc H2→(J.stop i H2∧C H2)∨(J.go i H2∧∀ x H3,J.yld i H2 x H3→g x b H3 fun σ4 H4=>tYes σ4 H4 fun ok H5 =>
      if ok=true then te σ4 H5 fun v H6=>H6 p=some (.lst acc)∧acc.length<sizeLine∧∃ m',m'<m∧W (i+1) m' (acc++[v]) (upd H6 p (.lst (acc++[v]))) else ∃ m',m'<m∧W (i+1) m' acc H5):=by
  refine comp_by (Q:=fun _ H=>C H) n (fun i acc H2=>acc.length=i∧(∀ (j:Nat) (z:V),acc[j]?=some z→B j z)∧H2 p=some (.lst acc)∧Same H1 H2) ⟨rfl,fun j z e=>by simp at e,upd_same,same_new hp _⟩ ?_ ?_
  · rintro i acc H2 hi ⟨hl,hB,h2,s2⟩
    obtain ⟨g1,g2⟩:=hgo i H2 hi s2
    refine ⟨g1,fun x H3 y=>?_⟩
    simp only [tYes,if_true]
    refine g2 x H3 y _ fun z H6 s6 hz=>⟨s6 _ _ h2,by omega,nx hi ⟨by simp [hl],fun j y e=>?_,upd_same,same_upd (s2.trans s6) hp⟩⟩
    by_cases hj:j<acc.length
    · rw [List.getElem?_append_left hj] at e
      exact hB j y e
    · rw [List.getElem?_append_right (by omega)] at e
      have:j-acc.length=0:=by
        by_cases q:j-acc.length=0
        · exact q
        · rw [List.getElem?_eq_none (by simp; omega)] at e; cases e
      rw [this] at e
      simp at e
      subst e
      have:j=i:=by omega
      rw [this]
      exact hz
  · rintro acc H2 ⟨hl,hB,h2,s2⟩
    exact hd acc H2 s2 hl hB h2
end L3
end
section
namespace L3
open PySem PySem.Spec PyProof.Rows L2 KM
mutual
def pyD:D→PyData
  | .non=>.none
  | .bl b=>.bool b
  | .int i=>.int i
  | .str x=>.str x
  | .tup ds=>.tuple (pyL ds)
def pyL:List D→List PyData
  | []=>[]
  | d::ds=>pyD d::pyL ds
end
mutual
theorem py_depth:∀ d:D,(pyD d).depth≤depth d
  | .non=>Nat.zero_le _
  | .bl _=>Nat.zero_le _
  | .int _=>Nat.zero_le _
  | .str _=>Nat.zero_le _
  | .tup ds=>by
    show PyData.depthAll (pyL ds)+1≤1+depthL ds
    have:=py_depthL ds
    omega
theorem py_depthL:∀ ds:List D,PyData.depthAll (pyL ds)≤depthL ds
  | []=>Nat.zero_le _
  | d::ds=>by
    show max (pyD d).depth (PyData.depthAll (pyL ds))≤max (depth d) (depthL ds)
    have h1:=py_depth d
    have h2:=py_depthL ds
    omega
end
section
variable {X:Cx} {pins:List (Addr×Obj)} {σ:L2.St} {H:Hp} {s:Shared}
mutual
theorem rep_reads (I:Inv X pins σ H s):∀ {d:D} {v:V} {u:Value},Rep H d v→RelV v u→∃ as,Reads s.heap u (pyD d) as
  | .non,_,u,r,ru=>by
    have r:_=V.non:=r
    subst r
    cases (show u=Value.none from ru)
    exact ⟨_,.none⟩
  | .bl b,_,u,r,ru=>by
    have r:_=V.bl b:=r
    subst r
    cases (show u=Value.bool b from ru)
    exact ⟨_,.bool b⟩
  | .int i,_,u,r,ru=>by
    have r:_=V.int i:=r
    subst r
    obtain ⟨t,rfl⟩:=(show ∃ t,u=Value.int i t from ru)
    exact ⟨_,.int i t⟩
  | .str x,_,u,r,ru=>by
    have r:_=V.str x:=r.1
    subst r
    obtain ⟨t,rfl⟩:=(show ∃ t,u=Value.str x t from ru)
    exact ⟨_,.str x t⟩
  | .tup ds,_,u,r,ru=>by
    obtain ⟨a,vs,e,ha,rs⟩:=r
    subst e
    cases (show u=Value.ref a from ru)
    obtain ⟨its,rv,⟨o,ho,hc,n,hd⟩,_⟩:=I.tuple (SqT.of (K:=X.K) ha)
    obtain ⟨as,h⟩:=reps_reads I rs rv
    exact ⟨as,.tuple ho hc hd (by simpa using h)⟩
theorem reps_reads (I:Inv X pins σ H s):∀ {ds:List D} {vs:List V} {us:List Value},Reps H ds vs→Vals vs us→∃ as,ReadsAll s.heap us (pyL ds) as
  | [],_,us,r,rv=>by
    have r:_=[]:=r
    subst r
    cases rv
    exact ⟨_,.nil⟩
  | d :: ds, _, us, ⟨v, r, e, q, t⟩, rv => by
    subst e
    cases rv with
    | cons a b =>
      obtain ⟨as,h1⟩:=rep_reads I q a
      obtain ⟨bs,h2⟩:=reps_reads I t b
      exact ⟨_,.cons h1 h2⟩
end
end
mutual
def cmpD:D→Bool
  | .non=>true
  | .bl _=>false
  | .int _=>true
  | .str x=>(PyData.str x).canLay0
  | .tup ds=>cmpL ds
def cmpL:List D→Bool
  | []=>true
  | d::ds=>cmpD d && cmpL ds
end
mutual
theorem cmp_lay:∀ d:D,cmpD d=true→(pyD d).canLay0=true
  | .non,_=>rfl
  | .bl _,h=>by cases h
  | .int _,_=>rfl
  | .str x,h=>h
  | .tup ds,h=>cmp_layL ds h
theorem cmp_layL:∀ ds:List D,cmpL ds=true→PyData.canLayAll0 (pyL ds)=true
  | [],_=>rfl
  | d::ds,h=>by
    have h:(cmpD d && cmpL ds)=true:=h
    rw [Bool.and_eq_true] at h
    show ((pyD d).canLay0 && PyData.canLayAll0 (pyL ds))=true
    rw [cmp_lay d h.1,cmp_layL ds h.2]
    rfl
end
mutual
theorem eqv_iff:∀ d e:D,cmpD d=true→cmpD e=true→(PyData.eqv (pyD d) (pyD e)=true↔d=e)
  | .bl _,_,h,_=>by cases h
  | .non,e,_,h=>by cases e <;> simp [pyD,PyData.eqv,cmpD] at h ⊢
  | .int i,e,_,h=>by cases e <;> simp [pyD,PyData.eqv,cmpD] at h ⊢
  | .str x,e,_,h=>by cases e <;> simp [pyD,PyData.eqv,cmpD] at h ⊢
  | .tup ds,.tup es,h,h'=>by
    show PyData.eqvAll (pyL ds) (pyL es)=true↔_
    rw [eqv_iffL ds es h h']
    simp
  | .tup ds,.non,_,_=>by simp [pyD,PyData.eqv]
  | .tup ds,.bl _,_,h=>by cases h
  | .tup ds,.int _,_,_=>by simp [pyD,PyData.eqv]
  | .tup ds,.str _,_,_=>by simp [pyD,PyData.eqv]
theorem eqv_iffL:∀ ds es:List D,cmpL ds=true→cmpL es=true→(PyData.eqvAll (pyL ds) (pyL es)=true↔ds=es)
  | [],[],_,_=>by simp [pyL,PyData.eqvAll]
  | [],_::_,_,_=>by simp [pyL,PyData.eqvAll]
  | _::_,[],_,_=>by simp [pyL,PyData.eqvAll]
  | d::ds,e::es,h,h'=>by
    have h:(cmpD d && cmpL ds)=true:=h
    have h':(cmpD e && cmpL es)=true:=h'
    rw [Bool.and_eq_true] at h h'
    show (PyData.eqv (pyD d) (pyD e) && PyData.eqvAll (pyL ds) (pyL es))=true↔_
    rw [Bool.and_eq_true,eqv_iff d e h.1 h'.1,eqv_iffL ds es h.2 h'.2]
    simp
end
def rEqD (eq:Bool):R2:=fun x y H Q=>∃ (d e:D) (z:Bool),Rep H d x∧Rep H e y∧depth d≤60∧depth e≤60∧cmpD d=true∧cmpD e=true∧(z=true↔d=e)∧Q (.bl (z==eq)) H
theorem shp {d:D} (h:cmpD d=true) (hd:depth d≤60):SeqAt.shaped (pyD d)=true:=by
  unfold SeqAt.shaped
  rw [cmp_lay d h,Bool.true_and]
  exact decide_eq_true (Nat.le_trans (py_depth d) (by omega))
theorem eqv_z {d e:D} {z:Bool} (h1:cmpD d=true) (h2:cmpD e=true) (hz:z=true↔d=e):PyData.eqv (pyD d) (pyD e)=z:=by
  have:=eqv_iff d e h1 h2
  cases z with
  | true=>exact this.mpr (hz.mp rfl)
  | false =>
    cases q:PyData.eqv (pyD d) (pyD e) with
    | false=>rfl
    | true=>exact absurd (hz.mpr (this.mp q)) (by simp)
theorem op_eqD {X:Cx} (hu:X.A.units+64<cLine):OpR X (compareOp .Eq) (rEqD true):=by
  intro pins s σ H x y v u Q I rx ry h
  obtain ⟨d,e,z,r1,r2,hd,he,c1,c2,hz,q⟩:=h
  obtain ⟨as,h1⟩:=rep_reads I r1 rx
  obtain ⟨bs,h2⟩:=rep_reads I r2 ry
  refine SeqAt.compareEq_shaped h1 h2 (shp c1 hd) (shp c2 he) hu ⟨_,H,I,?_,q⟩
  rw [eqv_z c1 c2 hz]
  show Value.bool _=Value.bool _
  cases z <;> rfl
theorem op_neD2 {X:Cx} (hu:X.A.units+64<cLine):OpR X (compareOp .NotEq) (rEqD false):=by
  intro pins s σ H x y v u Q I rx ry h
  obtain ⟨d,e,z,r1,r2,hd,he,c1,c2,hz,q⟩:=h
  obtain ⟨as,h1⟩:=rep_reads I r1 rx
  obtain ⟨bs,h2⟩:=rep_reads I r2 ry
  refine SeqAt.compareNe_shaped h1 h2 (shp c1 hd) (shp c2 he) hu ⟨_,H,I,?_,q⟩
  rw [eqv_z c1 c2 hz]
  show Value.bool _=Value.bool _
  cases z <;> rfl
end L3
end
section
namespace L3
open PySem PySem.Spec PyProof.Rows L2 KM
end L3
end
section
namespace L3
open PySem PySem.Spec PyProof.Rows L2 KM
section
variable {P:Program} {w:World}
open SeqAt MeetsSeq3 in
open SeqAt MeetsSeq3 in
end
section
variable {X:Cx}
end
theorem comp_byC {J:It} {p:Addr} {H1:Hp} {g:TG} {tt:TT} {te:TE} {b:L2.St} {C:Hp→Prop} (n:Nat) (Pv:Nat→List V→Hp→Prop) (h0:Pv 0 [] (upd H1 p (.lst [])))
    (hgo:∀ i acc H2,i<n→Pv i acc H2→J.go i H2∧∀ x H3,J.yld i H2 x H3→g x b H3 fun σ4 H4=>tt σ4 H4 fun ok H5 =>
      if ok=true then te σ4 H5 fun v H6=>H6 p=some (.lst acc)∧acc.length<sizeLine∧Nx n i (Pv (i+1) (acc++[v]) (upd H6 p (.lst (acc++[v])))) else Nx n i (Pv (i+1) acc H5))
    (hd:∀ acc H2,Pv n acc H2→J.stop n H2∧C H2) :
    ∃ W:Nat→Nat→List V→Hp→Prop,(∃ m,W 0 m [] (upd H1 p (.lst [])))∧∀ i m acc H2,W i m acc H2→(J.stop i H2∧C H2)∨(J.go i H2∧∀ x H3,J.yld i H2 x H3→g x b H3 fun σ4 H4=>tt σ4 H4 fun ok H5 =>
      if ok=true then te σ4 H5 fun v H6=>H6 p=some (.lst acc)∧acc.length<sizeLine∧∃ m',m'<m∧W (i+1) m' (acc++[v]) (upd H6 p (.lst (acc++[v]))) else ∃ m',m'<m∧W (i+1) m' acc H5):=comp_by (Q:=fun _ H=>C H) n Pv h0 hgo hd
end L3
end
section
namespace L3
open PySem
theorem runs_toks {M:Model} {Γ:Ctx} {p:Pos} {t:Sem Fin} {fs:List Frame} {s s':Shared} {e:End} (h:Runs M Γ p t fs s e s'):s.toks≤s'.toks:=by
  induction h <;> first
    | exact Nat.le_refl _
    | assumption
    | (apply Nat.le_trans _ (by assumption); exact Nat.le_succ _)
    | (apply Nat.le_trans <;> assumption)
theorem wp_toks {α:Type} {M:Model} {Γ:Ctx} (n:Nat) (t:Sem α):∀ {Q:α→Pos→Shared→Prop} {E:Value→Pos→Shared→Prop} {p:Pos} {s:Shared},n≤s.toks→Sem.wp M Γ t Q E p s→Sem.wp M Γ t (fun a p' s'=>Q a p' s'∧n≤s'.toks) (fun e p' s'=>E e p' s'∧n≤s'.toks) p s:=by
  induction t with
  | pure a=>intro Q E p s hn h; rw [Sem.wp] at h ⊢; exact ⟨h,hn⟩
  | raise e=>intro Q E p s hn h; rw [Sem.wp] at h ⊢; exact ⟨h,hn⟩
  | unsupported w=>intro Q E p s hn h; rw [Sem.wp] at h; exact h.elim
  | finish w=>intro Q E p s hn h; rw [Sem.wp] at h; exact h.elim
  | rule tag k ih=>intro Q E p s hn h; rw [Sem.wp] at h ⊢; exact ih _ hn h
  | «at» p' k ih => intro Q E p s hn h; rw [Sem.wp] at h ⊢; exact ih _ hn h
  | load a part k ih=>intro Q E p s hn h; rw [Sem.wp] at h ⊢; obtain ⟨o,e,h⟩:=h; exact ⟨o,e,ih _ hn h⟩
  | update a part f k ih=>intro Q E p s hn h; rw [Sem.wp] at h ⊢; obtain ⟨e,h⟩:=h; exact ⟨e,ih _ hn h⟩
  | alloc o k ih=>intro Q E p s hn h; rw [Sem.wp] at h ⊢; exact ih _ hn h
  | loadIfAlive a k ih=>intro Q E p s hn h; rw [Sem.wp] at h ⊢; exact ih _ hn h
  | point l k ih=>intro Q E p s hn h; rw [Sem.wp] at h ⊢; exact ih _ hn h
  | register a k ih=>intro Q E p s hn h; rw [Sem.wp] at h; exact h.elim
  | fresh k ih=>intro Q E p s hn h; rw [Sem.wp] at h ⊢; exact ih _ (Nat.le_trans hn (Nat.le_succ _)) h
  | ask k ih=>intro Q E p s hn h; rw [Sem.wp] at h ⊢; exact ih _ hn h
  | choose src m k ih=>intro Q E p s hn h; rw [Sem.wp] at h ⊢; obtain ⟨e,h⟩:=h; exact ⟨e,ih _ hn h⟩
  | os q l k ih=>intro Q E p s hn h; rw [Sem.wp] at h ⊢; exact ih _ hn h
  | call c hd g l k ih=>intro Q E p s hn h; rw [Sem.wp] at h ⊢; obtain ⟨r,s',hr,h⟩:=h; exact ⟨r,s',hr,ih _ (Nat.le_trans hn (runs_toks hr)) h⟩
  | handled own k ih=>intro Q E p s hn h; rw [Sem.wp] at h ⊢; exact ih _ hn h
  | newGen c k ih=>intro Q E p s hn h; rw [Sem.wp] at h ⊢; exact ih _ hn h
  | genState g k ih=>intro Q E p s hn h; rw [Sem.wp] at h ⊢; obtain ⟨st,e,h⟩:=h; exact ⟨st,e,ih _ hn h⟩
  | resume g r l k ih =>
    intro Q E p s hn h
    rw [Sem.wp] at h ⊢
    obtain ⟨res,s',hw,h⟩:=h
    refine ⟨res,s',hw,ih _ ?_ h⟩
    unfold Wakes at hw
    split at hw
    · exact hw.elim
    · split at hw
      · obtain ⟨e1,s1,hr,_,_,rfl⟩:=hw; have q:=runs_toks hr; exact Nat.le_trans hn q
      · obtain ⟨_,rfl⟩:=hw; exact hn
      · obtain ⟨_,rfl⟩:=hw; exact hn
    · obtain ⟨e1,s1,hr,_,_,rfl⟩:=hw; have q:=runs_toks hr; exact Nat.le_trans hn q
    · obtain ⟨_,rfl⟩:=hw; exact hn
    · obtain ⟨_,rfl⟩:=hw; exact hn
  | yield v g l k ih=>intro Q E p s hn h; rw [Sem.wp] at h; exact h.elim
  | stack k ih=>intro Q E p s hn h; rw [Sem.wp] at h ⊢; exact ih _ hn h
  | fork c k ih=>intro Q E p s hn h; rw [Sem.wp] at h; exact h.elim
  | thread k ih=>intro Q E p s hn h; rw [Sem.wp] at h ⊢; exact ih _ hn h
  | await a f d l k ih=>intro Q E p s hn h; rw [Sem.wp] at h; exact h.elim
theorem wpAny_toks {α:Type} {M:Model} {A:Around} {t:Sem α} {Q:α→Shared→Prop} {E:Value→Shared→Prop} {s:Shared} (n:Nat) (hn:n≤s.toks) (h:wpAny M A t Q E s):wpAny M A t (fun a s'=>Q a s'∧n≤s'.toks) (fun e s'=>E e s'∧n≤s'.toks) s :=
  fun Γ p hi=>wp_toks n t hn (h Γ p hi)
theorem thnP {α:Type} {M:Model} {A:Around} {t:Sem α} {Q Q':α→Shared→Prop} {E:Value→Shared→Prop} {s:Shared} (hp:0<s.toks) (h:wpAny M A t Q E s) (hQ:∀ a s',0<s'.toks→Q a s'→Q' a s'):wpAny M A t Q' E s :=
  wpAny_mono (wpAny_toks 1 hp h) (fun a s' z=>hQ a s' z.2 z.1) fun e s' z=>z.1
end L3
end
section
namespace L3
open PySem PySem.Builtin PySem.Builtin.Str PySem.StrLaws
def posC (c:Nat):Nat→List Nat→List Nat
  | _,[]=>[]
  | a,x::r=>if x=c then a::posC c (a+1) r else posC c (a+1) r
def spl (c : Nat) : List Nat → List (List Nat)
  | []=>[[]]
  | x::r=>if x=c then []::spl c r else match spl c r with
    | []=>[[x]]
    | w::ws=>(x::w)::ws
theorem spl_ne (c:Nat) (l:List Nat):∃ w ws,spl c l=w::ws:=by
  cases l with
  | nil=>exact ⟨_,_,rfl⟩
  | cons x r =>
    rw [spl]
    split
    · exact ⟨_,_,rfl⟩
    · split <;> exact ⟨_,_,rfl⟩
theorem occ_run (x : Str) (c hi limit : Nat) (hh : hi = x.length) (hl : hi < limit) : ∀ (m lo : Nat) (st : Array Nat × Nat), lo + m = hi + 1 → st.1.size ≤ lo → st.2 ≤ lo → (forIn (m := Id) (List.range' lo m) st (occBody x ⟨#[c]⟩ hi limit)).run.1.toList = st.1.toList ++ posC c lo (x.cps.toList.drop lo)
  | 0,lo,st,h,h1,h2=>by
    have : x.cps.toList.drop lo = [] := List.drop_eq_nil_of_le (by have : x.length = x.cps.toList.length := by simp [Str.length]
                                                                   omega)
    rw [this]
    simp [posC]
  | m + 1, lo, st, h, h1, h2 => by
    rw [List.range'_succ,List.forIn_cons]
    have one:=subAt_one x c lo
    have hx:x.length=x.cps.toList.length:=by simp [Str.length]
    by_cases hlt:lo<x.cps.toList.length
    · have hd:x.cps.toList.drop lo=x.cps.toList[lo]::x.cps.toList.drop (lo+1):=List.drop_eq_getElem_cons hlt
      rw [hd,posC]
      unfold occBody
      by_cases hc:x.cps.toList[lo]=c
      · have q:=one.mpr (by rw [List.getElem?_eq_getElem hlt,hc])
        rw [if_pos ⟨⟨⟨by omega,h2⟩,by rw [hh]; exact q.1⟩,q.2⟩,if_pos hc]
        show (forIn (m:=Id) (List.range' (lo+1) m) (st.1.push lo,lo+1) (occBody x ⟨#[c]⟩ hi limit)).run.1.toList=_
        rw [occ_run x c hi limit hh hl m (lo+1) (st.1.push lo,lo+1) (by omega) (by simp; omega) (Nat.le_refl _)]
        simp
      · have q:¬ ((((st.1.size<limit∧st.2≤lo)∧lo+(⟨#[c]⟩:Str).length≤hi)∧subAt x ⟨#[c]⟩ lo=true)):=fun z=>by
          have:=one.mp ⟨by rw [← hh]; exact z.1.2,z.2⟩
          rw [List.getElem?_eq_getElem hlt] at this
          exact hc (Option.some.inj this)
        rw [if_neg q,if_neg hc]
        show (forIn (m:=Id) (List.range' (lo+1) m) (st.1,st.2) (occBody x ⟨#[c]⟩ hi limit)).run.1.toList=_
        rw [occ_run x c hi limit hh hl m (lo+1) (st.1,st.2) (by omega) (by show st.1.size≤lo+1; omega) (by show st.2≤lo+1; omega)]
    · have hd:x.cps.toList.drop lo=[]:=List.drop_eq_nil_of_le (by omega)
      rw [hd,posC]
      unfold occBody
      have q:¬ ((((st.1.size<limit∧st.2≤lo)∧lo+(⟨#[c]⟩:Str).length≤hi)∧subAt x ⟨#[c]⟩ lo=true)):=fun z=>by
        have h3:(⟨#[c]⟩:Str).length=1:=rfl
        have:=z.1.2
        omega
      rw [if_neg q]
      show (forIn (m:=Id) (List.range' (lo+1) m) (st.1,st.2) (occBody x ⟨#[c]⟩ hi limit)).run.1.toList=_
      rw [occ_run x c hi limit hh hl m (lo+1) (st.1,st.2) (by omega) (by show st.1.size≤lo+1; omega) (by show st.2≤lo+1; omega)]
      have hd2:x.cps.toList.drop (lo+1)=[]:=List.drop_eq_nil_of_le (by omega)
      rw [hd2,posC]
theorem occ_one (x:Str) (c:Nat):occurrences x ⟨#[c]⟩ 0 x.length (x.length+1)=posC c 0 x.cps.toList:=by
  rw [occ_eq]
  have:=occ_run x c x.length (x.length+1) rfl (Nat.lt_succ_self _) (x.length+1) 0 (#[],0) (by omega) (by simp) (Nat.le_refl _)
  simpa using this
theorem sub_list (x:Str) (i j:Nat):strSub x i j=⟨((x.cps.toList.drop i).take (j-i)).toArray⟩:=by
  apply PySem.Str.ext'
  apply Array.ext'
  rw [strSub_toList]
def hdApp (pre:List Nat):List (List Nat)→List (List Nat)
  | []=>[]
  | w::ws=>(pre++w)::ws
theorem parts_spl (x:Str) (c:Nat):∀ (l pre:List Nat) (a b:Nat),x.cps.toList.drop a=pre++l→b=a+pre.length→c∉pre →
    partsFrom x 1 a (posC c b l)=(hdApp pre (spl c l)).map fun w:List Nat=>(⟨w.toArray⟩:Str)
  | [],pre,a,b,hd,hb,hc=>by
    have hx:x.length=x.cps.toList.length:=by simp [Str.length]
    rw [posC,partsFrom,spl,sub_list]
    rw [List.append_nil] at hd
    have hl:pre.length≤x.length-a:=by
      rw [← hd,List.length_drop]
      omega
    rw [hd,List.take_of_length_le hl]
    simp [hdApp]
  | y :: l, pre, a, b, hd, hb, hc => by
    rw [posC,spl]
    by_cases hy:y=c
    · rw [if_pos hy,if_pos hy,partsFrom,sub_list,hd,hb]
      have e1:(pre++y::l).take (a+pre.length-a)=pre:=by
        rw [show a+pre.length-a=pre.length by omega,List.take_left']
        rfl
      rw [e1]
      have h3:x.cps.toList.drop (a+pre.length+1)=[]++l:=by
        rw [show a+pre.length+1=a+(pre.length+1) by omega,← List.drop_drop,hd]
        simp
      rw [parts_spl x c l [] (a+pre.length+1) (a+pre.length+1) h3 (by simp) (by simp)]
      obtain ⟨w,ws,e⟩:=spl_ne c l
      rw [e]
      simp [hdApp]
    · rw [if_neg hy,if_neg hy]
      rw [parts_spl x c l (pre++[y]) a (b+1) (by rw [hd]; simp) (by simp; omega) (by simp; exact ⟨hc,fun z=>hy z.symm⟩)]
      obtain ⟨w,ws,e⟩:=spl_ne c l
      rw [e]
      simp [hdApp]
theorem parts_one (x:Str) (c:Nat):partsBetween x (occurrences x ⟨#[c]⟩ 0 x.length (x.length+1)) 1=(spl c x.cps.toList).map fun w:List Nat=>(⟨w.toArray⟩:Str):=by
  rw [partsBetween_eq,occ_one,parts_spl x c x.cps.toList [] 0 0 (by simp) rfl (by simp)]
  obtain ⟨w,ws,e⟩:=spl_ne c x.cps.toList
  rw [e]
  simp [hdApp]
def sub1 (c:Nat) (z:List Nat) (l:List Nat):List Nat:=l.flatMap fun a=>if a=c then z else [a]
theorem join_spl (c:Nat) (z:Str):∀ l:List Nat,(Str.join z ((spl c l).map fun w:List Nat=>(⟨w.toArray⟩:Str))).cps.toList=sub1 c z.cps.toList l
  | []=>by simp [spl,Str.join,sub1]
  | a :: l => by
    have ih:=join_spl c z l
    obtain ⟨w,ws,e⟩:=spl_ne c l
    rw [spl]
    have e1:sub1 c z.cps.toList (a::l)=(if a=c then z.cps.toList else [a])++sub1 c z.cps.toList l:=by simp [sub1]
    rw [e1]
    by_cases ha:a=c
    · rw [if_pos ha,if_pos ha,← ih,e]
      simp [Str.join,PySem.Str.cps_append]
    · rw [if_neg ha,if_neg ha,← ih,e]
      cases ws with
      | nil=>simp [Str.join]
      | cons u us=>simp [Str.join,PySem.Str.cps_append]
theorem spl_none {c : Nat} : ∀ {l : List Nat}, posC c 0 l = [] ∨ c ∉ l → c ∉ l
  | l,.inr h=>h
  | l,.inl h=>by
    have key:∀ (l:List Nat) (a:Nat),posC c a l=[]→c∉l:=fun l=>by
      induction l with
      | nil=>intro a _; simp
      | cons x r ih =>
        intro a h
        rw [posC] at h
        split at h
        · cases h
        · rename_i hx
          have:=ih (a+1) h
          simp
          exact ⟨fun z=>hx z.symm,this⟩
    exact key l 0 h
theorem sub1_none {c:Nat} {z:List Nat}:∀ {l:List Nat},c∉l→sub1 c z l=l
  | [],_=>rfl
  | a::l,h=>by
    have h:¬ c=a∧c∉l:=by simpa using h
    have ih:=sub1_none (z:=z) h.2
    unfold sub1 at ih ⊢
    rw [List.flatMap_cons,ih,if_neg fun e=>h.1 e.symm]
    rfl
theorem replace_one (x z:Str) (c:Nat):(Txt.replace x ⟨#[c]⟩ z).cps.toList=sub1 c z.cps.toList x.cps.toList:=by
  unfold Txt.replace
  rw [occ_one]
  have h1:(((⟨#[c]⟩:Str).length==0) && (z.length==0))=false:=by
    rw [show (⟨#[c]⟩:Str).length=1 from rfl]
    rfl
  rw [h1,Bool.or_false]
  split
  · rename_i h
    have h:posC c 0 x.cps.toList=[]:=List.isEmpty_iff.mp h
    rw [sub1_none (spl_none (.inl h))]
  · rw [glued_eq_join,show (⟨#[c]⟩:Str).length=1 from rfl]
    have:=parts_one x c
    rw [occ_one] at this
    rw [this]
    exact join_spl c z _
theorem spl_alone {c:Nat}:∀ {l:List Nat},c∉l→spl c l=[l]
  | [],_=>rfl
  | a::l,h=>by
    have h:¬ c=a∧c∉l:=by simpa using h
    rw [spl,if_neg fun e=>h.1 e.symm,spl_alone h.2]
def sg (a:Nat):List Nat:=if a=40 then [32,40,32] else if a=41 then [32,41,32] else if a=10 then [32] else [a]
def wdsL (l:List Nat):List (List Nat):=(spl 32 (l.flatMap sg)).filter fun w=>!w.isEmpty
theorem sub1_append (c:Nat) (z a b:List Nat):sub1 c z (a++b)=sub1 c z a++sub1 c z b:=List.flatMap_append
theorem sub3:∀ l:List Nat,sub1 10 [32] (sub1 41 [32,41,32] (sub1 40 [32,40,32] l))=l.flatMap sg
  | []=>rfl
  | a :: l => by
    have e:sub1 40 [32,40,32] (a::l)=(if a=40 then [32,40,32] else [a])++sub1 40 [32,40,32] l:=by simp [sub1]
    rw [e,sub1_append,sub1_append,sub3 l,List.flatMap_cons]
    congr 1
    unfold sg
    by_cases h1:a=40
    · subst h1; rfl
    · rw [if_neg h1,if_neg h1]
      by_cases h2:a=41
      · subst h2; rfl
      · rw [if_neg h2]
        by_cases h3:a=10
        · subst h3; rfl
        · rw [if_neg h3]
          simp [sub1,h2,h3]
theorem spl_pre:∀ {r t:List Nat},32∉r→spl 32 (r++32::t)=r::spl 32 t
  | [],t,_=>by rw [List.nil_append,spl,if_pos rfl]
  | a::r,t,h=>by
    have h:¬ 32=a∧32∉r:=by simpa using h
    rw [List.cons_append,spl,if_neg fun e=>h.1 e.symm,spl_pre h.2]
def brk (c:Nat):Bool:=c==32 || c==10 || c==40 || c==41
end L3
end
section
namespace L3
open PySem PySem.Spec PyProof.Rows L2 KM
section
variable {X:Cx}
def PEp (X:Cx) (e:Expr) (t:TE):Prop :=
  ∀ (pins:List (Addr×Obj)) (s:Shared) (σ:L2.St) (H:Hp) (Q:VK),Inv X pins σ H s→0<s.toks→t σ H Q→wpAny (model X.prog X.w) X.A (eval e X.env) (EP X pins σ Q) X.xe s
def PSp (X:Cx) (st:Stmt) (t:TS):Prop :=
  ∀ (pins:List (Addr×Obj)) (s:Shared) (σ:L2.St) (H:Hp) (D:Ends),Inv X pins σ H s→0<s.toks→t D σ H→wpAny (model X.prog X.w) X.A (exec st X.env) (SP X pins D) X.xe s
def PSsp (X:Cx) (st:List Stmt) (t:TS):Prop :=
  ∀ (pins:List (Addr×Obj)) (s:Shared) (σ:L2.St) (H:Hp) (D:Ends),Inv X pins σ H s→0<s.toks→t D σ H→wpAny (model X.prog X.w) X.A (execs st X.env) (SP X pins D) X.xe s
def PSg (X:Cx) (st:Stmt) (t:TS):Prop :=
  ∀ (pins:List (Addr×Obj)) (s:Shared) (σ:L2.St) (H:Hp) (D:Ends),Inv X pins σ H s→t D σ H→wpAny (model X.prog X.w) X.A (exec st X.env) (fun f s'=>SP X pins D f s'∧0<s'.toks) X.xe s
variable {e:Expr} {es:List Expr} {te:TE} {st:Stmt} {rest:List Stmt} {t u:TS} {pos:Pos}
theorem pe_p (h:PE X e te):PEp X e te:=fun pins s σ H Q I _ q=>h pins s σ H Q I q
theorem ps_p (h:PS X st t):PSp X st t:=fun pins s σ H D I _ q=>h pins s σ H D I q
theorem pssp_cons (h1:PSp X st t) (h2:PSsp X rest u):PSsp X (st::rest) (tSeq t u):=by
  intro pins s σ H D I hp h
  refine wpAny_execs_cons (thnP hp (h1 pins s σ H { D with nx:=u D } I hp h) fun f s1 p1 q=>?_)
  cases f with
  | next=>obtain ⟨σ',H',I',q⟩:=q; exact h2 pins s1 σ' H' D I' p1 q
  | ret v=>exact q
  | brk=>exact q
  | cont=>exact q
theorem pssp_one (h1:PSp X st t):PSsp X [st] t:=by
  intro pins s σ H D I hp h
  refine wpAny_execs_cons (thn (h1 pins s σ H D I hp h) fun f s1 q=>?_)
  cases f with
  | next=>exact wpAny_execs_nil q
  | ret v=>exact q
  | brk=>exact q
  | cont=>exact q
theorem psp_set {i:Nat} {x:Str} {pos':Pos} (hN:X.N.Nodup) (hi:X.N[i]?=some x) (hx:Loc X.env.scope x) (he:PEp X e te) (hs:swapsWith e (some (.Name x pos')) pos.line X.env=pure false:=by rfl) (hf:X.fn x=true∨X.env.scope.names.lookup x=some .local:=by first | exact .inl rfl | exact .inr rfl | assumption) :
    PSp X (.Assign [.Name x pos'] e pos) (tAsg te (gName i)):=by
  intro pins s σ H D I hp h
  refine wpAny_Assign_Name (thn (he pins s σ H _ I hp h) fun v s1 ⟨y,H1,I1,r1,q1⟩=>?_) hs
  exact store_ok I1 hN hi hx r1 (fun s2 I2=>⟨_,H1,I2,q1⟩) hf
end
structure FnOkP (P:Program) (w:World) (K:PySem.W.Frag) (mg:Str→Option Value) (base:Heap) (CX:CXT) (k:Nat) (f:Addr) (fd:FuncData) (ps:List Str) (sp:Sp):Prop where
  len:∀ vs H Q E,sp vs H Q E→vs.length=ps.length
  run:∀ (A:Around) (outer:List Env) (s:Shared) (H:Hp) (args:Args) (us:List Value) (vs:List V) (Q:VK) (E:XK),0<s.toks→Room k A→Env0 P w K mg base A outer s H→BindsTo s fd args (ps.zip us)→Vals vs us→sp vs H Q E →
    codeAny (model P w) A (.call (.ref f) args) (CR CX A.handled outer P w H s Q E) s
def CalP (P:Program) (w:World) (K:PySem.W.Frag) (mg:Str→Option Value) (CX:CXT) (x:Str) (k:Nat) (ps:List Str) (sp:Sp):Prop :=
  ∃ f fd,(∀ base,FnOkP P w K mg base CX k f fd ps sp)∧mg x=some (.ref f)∧PySem.W.keepIn K (.ref f)=true∧Binds K fd ps []
theorem PSsp.nox {X:Cx} {st:List Stmt} {t:TS} (h:PSsp X.nox st t):PSsp X st t:=fun pins s σ H D I k hw =>
  wpAny_mono (h pins s σ H D (I.wish _) k hw) (fun _ _ q=>q.unwish) fun _ _ z=>False.elim z
theorem Df.okPG {P:Program} {w:World} {K:PySem.W.Frag} {mg:Str→Option Value} {CX:CXT} {x:Str} {st:Stmt} {N ps:List Str} {k:Nat} {sp:Sp} (D:Df K mg x st ps) (S:FnScope N ps (defScope st)) (len:∀ vs H Q E,sp vs H Q E→vs.length=ps.length)
    (hbody:∀ (base:Heap) (f:Addr) (cdv:Value) (A:Around) (outer:List Env) (s:Shared) (H:Hp) (vs:List V) (Q:VK) (E:XK),Room k (A.deeper (envOfC x (defScope st) s.heap.objs.size f cdv))→sp vs H Q E →
      ∃ t,PSsp (cxOf CX P w K mg base N x (defScope st) f cdv A outer s H E) (defBody st) t∧t { nx:=fun _ H'=>Q .non H',rt:=Q } (start N vs) H):CalP P w K mg CX x (k+1) ps sp:=by
  obtain ⟨f,fd,F,m,b⟩:=D
  refine ⟨f,fd,fun base=>?_,m,F.kp,b⟩
  have hbody:=hbody base f
  obtain ⟨oc,od,kV,doc,pm,an,cdv,ct,osl,rfl,lk,hcd⟩:=F.ex
  refine ⟨len,fun A outer s H args us vs Q E hk hr e0 hb r hsp=>?_⟩
  have hl:=len _ _ _ _ hsp
  have KX:K.In s.heap:=e0.mod.kin.keeps fun b o e=>(e0.bs b o e).1
  have lim:s.heap.NoLimit:=e0.mod.nolimit.keeps fun b o e=>(e0.bs b o e).1
  have hkind:∀ y∈ps.zip us,(defScope st).names.lookup y.1=some .local∨((defScope st).names.lookup y.1=some .cell∧((cellsFrom (s.heap.objs.size+1) (defScope st).names []).lookup y.1).isSome=true):=fun ⟨n,v⟩ hy=>by
    rcases S.par n (List.of_mem_zip hy).1 with q | q
    · exact .inl q
    · exact .inr ⟨q,PySem.W.cellsFrom_some _ _ _ (.inl q)⟩
  refine codeAny_call_function hr.depth (KX _ _ lk) rfl S.co S.gen rfl (PySem.W.codeRec_of KX hcd) (hb _ _ _ _ ?_)
  refine thnP hk (wpAny_newFunctionEnv_cells S.kind hkind fun env he s1 xc=>(⟨he,xc⟩:_∧_)) fun env s1 k1 ⟨he,xc⟩=>?_
  subst he
  refine ⟨lim.keeps xc.toInCall.keep,codeAny_func ?_⟩
  obtain ⟨t,ht,hq⟩:=hbody cdv A outer s H vs Q E (hr.deeper _) hsp
  have I:Inv (cxOf CX P w K mg base N x (defScope st) f cdv A outer s H E) [] (start N vs) H s1:=inv_start S e0 hl r xc
  refine wpAny_mono (ht [] s1 (start N vs) H _ I k1 hq) (fun fl s' hs=>?_) fun e s' hs=>hs
  have fin:∀ {σ':L2.St} {H':Hp} {v:V} {u:Value},Inv (cxOf CX P w K mg base N x (defScope st) f cdv A outer s H E) [] σ' H' s'→RelV v u→Q v H'→CE outer P w H s Q u s' :=
    fun {σ' H' v u} J rv q=>⟨v,H',J.os,J.bare,J.base,J.hok,rv,q⟩
  cases fl with
  | ret u =>
    obtain ⟨v,σ',H',J,rv,q⟩:=hs
    exact fin J rv q
  | next =>
    obtain ⟨σ',H',J,q⟩:=hs
    exact fin (v:=V.non) (u:=Value.none) J rfl q
  | brk =>
    obtain ⟨_,_,_,q⟩:=hs
    exact False.elim q
  | cont =>
    obtain ⟨_,_,_,q⟩:=hs
    exact False.elim q
theorem Df.okP {P:Program} {w:World} {K:PySem.W.Frag} {mg:Str→Option Value} {x:Str} {st:Stmt} {N ps:List Str} {k:Nat} {sp:Sp} (D:Df K mg x st ps) (S:FnScope N ps (defScope st)) (len:∀ vs H Q E,sp vs H Q E→vs.length=ps.length)
    (hbody:∀ (base:Heap) (f:Addr) (cdv:Value) (A:Around) (outer:List Env) (s:Shared) (H:Hp) (vs:List V) (Q:VK) (E:XK),Room k (A.deeper (envOfC x (defScope st) s.heap.objs.size f cdv))→sp vs H Q E →
      ∃ t,PSsp (cxOf CX0 P w K mg base N x (defScope st) f cdv A outer s H E).nox (defBody st) t∧t { nx:=fun _ H'=>Q .non H',rt:=Q } (start N vs) H):CalP P w K mg CX0 x (k+1) ps sp :=
  D.okPG S len fun base f cdv A outer s H vs Q E hr h=>let ⟨t,ht,q⟩:=hbody base f cdv A outer s H vs Q E hr h; ⟨t,ht.nox,q⟩
theorem pep_fn {X:Cx} {CX:CXT} {x:Str} {k:Nat} {ps:List Str} {sp:Sp} {E:XK} {e:Expr} {es:List Expr} {t:TA} {p pos:Pos} (F:CalP X.prog X.w X.K X.mg CX x k ps sp) (hr:Room k X.A) (hg:Gl X x) (hx:Passes CX X E)
    (ha:PA X (e::es) t) (hdb:(x==("__debug__" : Str))=false:=by decide) (he:starEach (e::es) X.env=(false,eval e X.env)::starEach es X.env:=by rfl) (hpl:(backTo pos (starEach es X.env)).any (·.1)=false:=by rfl) (hc:X.calm=true:=by rfl) :
    PEp X (.Call (.Name x p) (e::es) [] pos) (tCall sp [] E t):=by
  obtain ⟨f,fd,F,m,kp,b⟩:=F
  intro pins s σ H Q I hk h
  refine wpAny_Call_Name_kw (ld_glob I hg m ?_ hdb)
  refine PySem.W.callWith_K (h₀:=X.base) I.ok.mod.kin kp (thnP hk (ha pos pins s σ H _ I h) fun us s1 k1 ⟨vs,H1,I1,r,q⟩=>⟨I1.kIn,?_⟩) he hpl
  have q:sp (vs++[]) H1 Q E:=q
  rw [List.append_nil] at q
  have hl:us.length=ps.length:=by rw [← r.length]; exact (F (hidX s1.heap H1 (frs X.stack))).len _ _ _ _ q
  have bt:=b s1 us I1.kIn (by rw [List.append_nil]; exact hl)
  rw [List.append_nil] at bt
  refine wpAny_call (codeAny_mono ((F _).run X.A X.stack s1 H1 ⟨us,[]⟩ us vs Q E k1 hr (env1 I1 hc) bt r q) fun r s' hq=>?_)
  cases r with
  | error e=>exact hx pins σ H1 s1 e s' I1 hq
  | ok fl =>
    cases fl with
    | ret u=>exact I1.after hq
    | next=>exact False.elim hq
    | brk=>exact False.elim hq
    | cont=>exact False.elim hq
def PAg (X:Cx) (es:List Expr) (t:TA):Prop :=
  ∀ (pos:Pos) (pins:List (Addr×Obj)) (s:Shared) (σ:L2.St) (H:Hp) (Q:List V→Hp→Prop),Inv X pins σ H s→t σ H Q→wpAny (model X.prog X.w) X.A (spliced (backTo pos (starEach es X.env))) (fun us s'=>AP X pins σ Q us s'∧0<s'.toks) X.xe s
theorem pag_cons {X:Cx} {e:Expr} {es:List Expr} {te:TE} {t:TA} (ha:PE X e te) (hr:PAg X es t) (hs:starEach (e::es) X.env=(false,eval e X.env)::starEach es X.env:=by rfl):PAg X (e::es) (tCons te t):=by
  intro pos pins s σ H Q I h
  rw [hs]
  show wpAny _ _ (spliced ((false,eval e X.env)::backTo pos (starEach es X.env))) _ _ s
  refine Calls.spliced_cons (thn (ha pins s σ H _ I h) fun u s1 ⟨x,H1,I1,r1,q1⟩=>?_)
  exact thn (hr pos pins s1 σ H1 _ I1 q1) fun us s2 ⟨⟨xs,H2,I2,r2,q2⟩,k⟩=>⟨⟨x::xs,H2,I2,.cons r1 r2,q2⟩,k⟩
theorem pag_str {X:Cx} {x:Str} {j:Nat} {p:Pos} (hs:starEach [.Constant (.str x) j p] X.env=[(false,eval (.Constant (.str x) j p) X.env)]:=by rfl):PAg X [.Constant (.str x) j p] (tCons (tC (.str x)) tNil):=by
  intro pos pins s σ H Q I h
  rw [hs]
  show wpAny _ _ (spliced ((false,eval (.Constant (.str x) j p) X.env)::[])) _ _ s
  exact Calls.spliced_cons (Calls.Constant_str (Calls.spliced_nil ⟨⟨[.str x],H,I.tok _,.cons ⟨_,rfl⟩ .nil,h⟩,Nat.succ_pos _⟩))
theorem pe_fnc {X:Cx} {CX:CXT} {x:Str} {k:Nat} {ps:List Str} {sp:Sp} {E:XK} {e:Expr} {es:List Expr} {t:TA} {p pos:Pos} (F:CalP X.prog X.w X.K X.mg CX x k ps sp) (hr:Room k X.A) (hg:Gl X x) (hx:Passes CX X E)
    (ha:PAg X (e::es) t) (hdb:(x==("__debug__" : Str))=false:=by decide) (he:starEach (e::es) X.env=(false,eval e X.env)::starEach es X.env:=by rfl) (hpl:(backTo pos (starEach es X.env)).any (·.1)=false:=by rfl) (hc:X.calm=true:=by rfl) :
    PE X (.Call (.Name x p) (e::es) [] pos) (tCall sp [] E t):=by
  obtain ⟨f,fd,F,m,kp,b⟩:=F
  intro pins s σ H Q I h
  refine wpAny_Call_Name_kw (ld_glob I hg m ?_ hdb)
  refine PySem.W.callWith_K (h₀:=X.base) I.ok.mod.kin kp (thn (ha pos pins s σ H _ I h) fun us s1 ⟨⟨vs,H1,I1,r,q⟩,k1⟩=>⟨I1.kIn,?_⟩) he hpl
  have q:sp (vs++[]) H1 Q E:=q
  rw [List.append_nil] at q
  have hl:us.length=ps.length:=by rw [← r.length]; exact (F (hidX s1.heap H1 (frs X.stack))).len _ _ _ _ q
  have bt:=b s1 us I1.kIn (by rw [List.append_nil]; exact hl)
  rw [List.append_nil] at bt
  refine wpAny_call (codeAny_mono ((F _).run X.A X.stack s1 H1 ⟨us,[]⟩ us vs Q E k1 hr (env1 I1 hc) bt r q) fun r s' hq=>?_)
  cases r with
  | error e=>exact hx pins σ H1 s1 e s' I1 hq
  | ok fl =>
    cases fl with
    | ret u=>exact I1.after hq
    | next=>exact False.elim hq
    | brk=>exact False.elim hq
    | cont=>exact False.elim hq
theorem call_strI {X:Cx}:CallR X (.type "str") (fun xs H Q=>∃ i:Int,xs=[.int i]∧i.natAbs.log2<1920∧Q (.str (Str.ofString (toString i))) H):=by
  intro pins s σ H xs us Q I r h
  obtain ⟨i,rfl,hi,q⟩:=h
  obtain ⟨u,rfl,t,rfl⟩:=vals1 r
  exact PySem.P.str_of_int hi ⟨.str _,H,I.tok _,⟨_,rfl⟩,q⟩
theorem call_intS {X:Cx}:CallR X (.type "int") (fun xs H Q=>∃ (z:Str) (n:Int),xs=[.str z]∧PySem.intText? z=some n∧z.length≤640∧Q (.int n) H):=by
  intro pins s σ H xs us Q I r h
  obtain ⟨z,n,rfl,hn,hl,q⟩:=h
  obtain ⟨u,rfl,t,rfl⟩:=vals1 r
  exact PySem.W.KIN.call_text hn hl ⟨.int n,H,I.tok _,⟨_,rfl⟩,q⟩
section
variable {X:Cx}
def tRepl (y z:Str) (to:TE):TE:=fun σ H Q=>to σ H fun x H1=>∃ x0:Str,x=.str x0∧x0.length+(x0.length+1)*z.length≤16777216∧Q (.str (Txt.replace x0 y z)) H1
theorem pep_repl {o:Expr} {apos cpos p1 p2:Pos} {j1 j2:Nat} {y z:Str} {to:TE} (ho:PEp X o to) (hyz:(y==z)=false) (m:M2 X o "replace" apos (.Constant (.str y) j1 p1) (.Constant (.str z) j2 p2) cpos) :
    PEp X (.Call (.Attribute o "replace" apos) [.Constant (.str y) j1 p1,.Constant (.str z) j2 p2] [] cpos) (tRepl y z to):=by
  intro pins s σ H Q I hk h
  refine wpAny_Call_method m.base m.few m.line PySem.F.plainAttrs_str PySem.F.slot_str_replace PySem.F.type_str_replace (thnP hk (ho pins s σ H _ I hk h) fun u s1 k1 ⟨x,H1,I1,rx,x0,ex,hb,q1⟩=>?_)
  subst ex
  obtain ⟨t,rfl⟩:=(show ∃ t,u=Value.str x0 t from rx)
  refine ⟨typeIs_str _ _ _,(fun b q=>nomatch q),?_⟩
  rw [m.trees]
  refine Calls.callWith_builtin rfl (Calls.evalArgs_plain (Calls.spliced_cons (Calls.Constant_str (Calls.spliced_cons (Calls.Constant_str (Calls.spliced_nil ?_))))))
  have n1:s1.toks≠0:=Nat.pos_iff_ne_zero.mp k1
  refine SC.replace n1 (Nat.succ_ne_zero _) (Nat.ne_of_lt (Nat.lt_succ_self _)) hyz hb fun t' k=>⟨.str _,H1,?_,⟨_,rfl⟩,q1⟩
  exact (I1.tok _).tok _
def rSplit:V→List V→Hp→VK→Prop:=fun x vs H Q=>∃ (z:Str) (c:Nat),x=.str z∧vs=[.str ⟨#[c]⟩]∧c<256∧z.length<sizeLine∧∀ p,H p=none→Q (.ref p) (upd H p (.lst ((spl c z.cps.toList).map fun w:List Nat=>V.str ⟨w.toArray⟩)))
theorem spl_len (c:Nat):∀ l:List Nat,(spl c l).length≤l.length+1
  | []=>by simp [spl]
  | a::l=>by
    have ih:=spl_len c l
    obtain ⟨w,ws,e⟩:=spl_ne c l
    rw [spl,e]
    rw [e] at ih
    split <;> simp only [List.length_cons] at ih ⊢ <;> omega
theorem vals_strs:∀ (ws:List Str) (n:Nat),Vals (ws.map V.str) (strsFrom n ws)
  | [],_=>.nil
  | w::ws,n=>.cons ⟨n,rfl⟩ (vals_strs ws (n+1))
theorem kind_one {c:Nat} (h:c<256) (z:Str):decide (Builtin.Str.strKind z<Builtin.Str.strKind ⟨#[c]⟩)=false:=by
  have e:Builtin.Str.strKind ⟨#[c]⟩=1:=by
    unfold Builtin.Str.strKind
    rw [if_pos (by simp [h])]
  rw [e]
  refine decide_eq_false ?_
  unfold Builtin.Str.strKind
  repeat' split
  all_goals omega
theorem mt_split:MtR X "str.split" rSplit:=by
  intro pins s σ H x vs v us Q I rx rv h
  obtain ⟨z,c,rfl,rfl,hc,hz,q⟩:=h
  obtain ⟨u,rfl,ru⟩:=rv.one
  obtain ⟨t,rfl⟩:=(show ∃ t,v=Value.str z t from rx)
  obtain ⟨t2,rfl⟩:=(show ∃ t,u=Value.str ⟨#[c]⟩ t from ru)
  have hl:z.length=z.cps.toList.length:=by simp [Str.length]
  have whole:spl c z.cps.toList=[z.cps.toList]→EP X pins σ Q (.ref s.heap.objs.size) { s with heap:=s.heap.push { cls:=.type "list",data:=.seq [Value.str z t].toArray } }:=fun e=>by
    rw [e] at q
    exact ⟨.ref s.heap.objs.size,_,I.lnew (t':=s.toks) (its:=[Value.str z t]) (ys:=[V.str ⟨z.cps.toList.toArray⟩]) (.cons ⟨t,by simp⟩ .nil) (by show 1≤sizeLine; decide),rfl,q _ I.fresh⟩
  have k1:=kind_one hc z
  by_cases h0:z.length<1
  · have e0:z.cps.toList=[]:=List.length_eq_zero_iff.mp (by omega)
    refine call_meets F.slot_str_split (typeIs_str _ _ _) F.entry_str_split (F.args_str_split_2 _ _) (meets_str_split_cannot_occur z ⟨#[c]⟩ t t2 (by rw [show (⟨#[c]⟩:Str).length=1 from rfl,decide_eq_true h0]; rfl)) ?_
    exact whole (by rw [e0]; rfl)
  have hk:(decide (z.length<(⟨#[c]⟩:Str).length) || decide (Builtin.Str.strKind z<Builtin.Str.strKind ⟨#[c]⟩))=false:=by rw [k1,Bool.or_false,show (⟨#[c]⟩:Str).length=1 from rfl,decide_eq_false h0]
  have hy:((⟨#[c]⟩:Str).length==0)=false:=rfl
  cases hf:(Builtin.Str.occurrences z ⟨#[c]⟩ 0 z.length (z.length+1)).isEmpty with
  | true =>
    refine call_meets F.slot_str_split (typeIs_str _ _ _) F.entry_str_split (F.args_str_split_2 _ _) (meets_str_split_not_found z ⟨#[c]⟩ t t2 hk hy hf) ?_
    rw [occ_one] at hf
    exact whole (spl_alone (spl_none (.inl (List.isEmpty_iff.mp hf))))
  | false =>
    have hp:=parts_one z c
    have hlen:(Builtin.Str.partsBetween z (Builtin.Str.occurrences z ⟨#[c]⟩ 0 z.length (z.length+1)) 1).length≤sizeLine:=by
      rw [hp,List.length_map]
      have:=spl_len c z.cps.toList
      omega
    refine call_meets F.slot_str_split (typeIs_str _ _ _) F.entry_str_split (F.args_str_split_2 _ _) (meets_str_split_sep z ⟨#[c]⟩ t t2 hk hy hf (by omega) hlen) ?_
    rw [show (⟨#[c]⟩:Str).length=1 from rfl,hp]
    have hv:=vals_strs ((spl c z.cps.toList).map fun w:List Nat=>(⟨w.toArray⟩:Str)) s.toks
    rw [List.map_map] at hv
    exact ⟨.ref s.heap.objs.size,_,I.lnew (ys:=(spl c z.cps.toList).map fun w:List Nat=>V.str ⟨w.toArray⟩) hv (by rw [List.length_map]; have:=spl_len c z.cps.toList; omega),rfl,q _ I.fresh⟩
end
end L3
end
section
set_option maxHeartbeats 2000000
namespace K55
open PySem L2 L3 KM PyProof.Rows
seal L2.PE L2.PS L2.PSs L2.PT L2.PW L2.PA L2.PG L2.PGs L2.PI L2.PC L2.PO L2.PPs L2.PK L3.PIf L3.PEp L3.PSp L3.PSsp L3.PSg
variable {P:Program} {w:World} {K:PySem.W.Frag} {mg:Str→Option Value} {base:Heap} {t:Adr}
def tx (l:List Nat):Str:=⟨l.toArray⟩
theorem tx_of (z:Str):tx z.cps.toList=z:=by cases z; rfl
theorem tx_len (l:List Nat):(tx l).length=l.length:=rfl
theorem str_len (z:Str):z.length=z.cps.toList.length:=by simp [Str.length]
def spWords:Sp:=fun vs H Q _=>∃ z:Str,vs=[.str z]∧z.length≤100000∧∀ (p:Addr) (H':Hp),H p=none→Same H H'→H' p=some (.lst ((wdsL z.cps.toList).map fun w=>V.str (tx w)))→Q (.ref p) H'
theorem sub1_len {c:Nat} {z:List Nat} (hz:z.length≤3) (h1:1≤z.length):∀ l:List Nat,(sub1 c z l).length≤3*l.length
  | []=>by simp [sub1]
  | a :: l => by
    have ih:=sub1_len (c:=c) hz h1 l
    unfold sub1 at ih ⊢
    rw [List.flatMap_cons,List.length_append,List.length_cons]
    have:(if a=c then z else [a]).length≤3:=by
      split
      · exact hz
      · simp
    omega
theorem sc_words_of:FnScope ["text", "spaced"] ["text"] (defScope s_words_of):=⟨rfl,rfl,rfl,by decide +kernel,rfl,by decide +kernel,by decide +kernel⟩
theorem c_words_of (D:Df K mg "words_of" s_words_of ["text"]) (M:Mg mg t):CalP P w K mg CX0 "words_of" 2 ["text"] spWords:=by
  refine D.okP sc_words_of (fun vs H Q E h=>?_) (fun base f cdv A outer s H vs Q E hr h=>?_)
  · obtain ⟨z,rfl,_⟩:=h
    rfl
  obtain ⟨z,rfl,hz,q⟩:=h
  have hl:=str_len z
  refine ⟨_,(pssp_cons (psp_set (i:=1) sc_words_of.nd rfl (by first | exact Or.inl rfl | exact Or.inr rfl) (pep_repl (pep_repl (pep_repl (pe_p (pv 0)) (by decide +kernel) ⟨rfl,rfl,rfl,rfl⟩) (by decide +kernel) ⟨rfl,rfl,rfl,rfl⟩) (by decide +kernel) ⟨rfl,rfl,rfl,rfl⟩))
      (pssp_one (ps_p (ps_ret (pe_comp (N':=["word"]) (own:=1) (fr:=[]) rfl (blk_of (N:=["text", "spaced"]) (sc:=defScope s_words_of) rfl rfl rfl (by decide +kernel)) (pi_list (pe_bm PySem.F.plainAttrs_str PySem.F.slot_str_split PySem.F.type_str_split mt_split (pv 1) (pa_cons pe_str pa_nil))) (own_name (by decide)) (fun _ _ _=>(pg_name (i:=0) (show List.Nodup (["word"]:List Str) by decide +kernel) rfl (Or.inl rfl))) (fun _ _ _=>(pif_one (pt_cmpR op_ne (pv 0) pe_str (nomark _)))) (fun _ _ _=>(pv 0))))))),?_⟩
  try dsimp only [cxK,cxK2]
  refine let2 ?_
  intro _ _
  have e1:Str.ofString "(" = ⟨#[40]⟩:=by decide +kernel
  have e2:Str.ofString ")" = ⟨#[41]⟩:=by decide +kernel
  have e3:Str.ofString "\n" = ⟨#[10]⟩:=by decide +kernel
  have e4:Str.ofString " " = ⟨#[32]⟩:=by decide +kernel
  have l1:(Str.ofString " ( ").length=3:=by decide +kernel
  have l2:(Str.ofString " ) ").length=3:=by decide +kernel
  have c1:(Str.ofString " ( ").cps.toList=[32,40,32]:=by decide +kernel
  have c2:(Str.ofString " ) ").cps.toList=[32,41,32]:=by decide +kernel
  have r1:=replace_one z (Str.ofString " ( ") 40
  have r2:=replace_one (Txt.replace z "(" " ( ") (Str.ofString " ) ") 41
  have r3:=replace_one (Txt.replace (Txt.replace z "(" " ( ") ")" " ) ") (Str.ofString " ") 10
  rw [← e1,c1] at r1
  rw [← e2,c2,r1] at r2
  rw [← e3,r2,show (Str.ofString " ").cps.toList=[32] by rw [e4],sub3] at r3
  have b1:(Txt.replace z "(" " ( ").length≤3*z.length:=by rw [str_len,r1,hl]; exact sub1_len (by decide) (by decide) _
  have b2:(Txt.replace (Txt.replace z "(" " ( ") ")" " ) ").length≤3*(3*z.length):=by
    have:=sub1_len (c:=41) (z:=[32,41,32]) (by decide) (by decide) (sub1 40 [32,40,32] z.cps.toList)
    rw [str_len,r2]
    have h2:(sub1 40 [32,40,32] z.cps.toList).length≤3*z.length:=by rw [← r1,← str_len]; exact b1
    omega
  have b3 : (Txt.replace (Txt.replace (Txt.replace z "(" " ( ") ")" " ) ") "\n" " ").length ≤ 3 * z.length := by
    rw [str_len,r3,hl]
    have:∀ l:List Nat,(l.flatMap sg).length≤3*l.length:=fun l=>by
      induction l with
      | nil=>simp
      | cons a l ih =>
        rw [List.flatMap_cons,List.length_append,List.length_cons]
        have:(sg a).length≤3:=by
          unfold sg
          repeat' split
          all_goals simp
        omega
    exact this _
  have l4:(Str.ofString " ").length=1:=by decide +kernel
  refine ⟨_,rfl,z,rfl,(by rw [l1]; omega),_,rfl,(by rw [l2]; omega),_,rfl,(by rw [l4]; omega),?_⟩
  generalize Txt.replace (Txt.replace (Txt.replace z "(" " ( ") ")" " ) ") "\n" " " = T at r3 b3 ⊢
  have hT:=str_len T
  refine ⟨_,rfl,rfl,T,32,rfl,(by rw [e4]),(by decide),(by rw [sizeLine_eq]; omega),fun p0 hp0=>⟨p0,rfl,⟨_,SqL.of upd_same⟩,fun p hp=>?_⟩⟩
  have s0:=same_new hp0 (.lst ((spl 32 T.cps.toList).map fun w:List Nat=>V.str ⟨w.toArray⟩))
  have h0:(upd H p0 (.lst ((spl 32 T.cps.toList).map fun w:List Nat=>V.str ⟨w.toArray⟩))) p0=some (.lst ((spl 32 T.cps.toList).map fun w:List Nat=>V.str (tx w))):=upd_same
  generalize upd H p0 (.lst ((spl 32 T.cps.toList).map fun w:List Nat=>V.str ⟨w.toArray⟩))=H1 at s0 h0 hp ⊢
  have hlen:=spl_len 32 T.cps.toList
  refine comp_byC (spl 32 T.cps.toList).length (fun i acc H2=>acc=(((spl 32 T.cps.toList).take i).filter fun w=>!w.isEmpty).map (fun w=>V.str (tx w))∧H2 p=some (.lst acc)∧Same H1 H2) ⟨by simp,upd_same,same_new hp _⟩ ?_ ?_
  · rintro i acc H2 hi ⟨rfl,h2,s2⟩
    have hw:((spl 32 T.cps.toList).map fun w:List Nat=>V.str (tx w))[i]?=some (.str (tx (spl 32 T.cps.toList)[i])):=by simp [hi]
    refine ⟨⟨_,_,SqL.of (s2 _ _ h0),hw⟩,?_⟩
    rintro x' H3 ⟨rfl,hy⟩
    have hy:=hy _ (SqL.of (s2 _ _ h0))
    rw [hw] at hy
    cases hy
    have hlt:((((spl 32 T.cps.toList).take i).filter fun w=>!w.isEmpty).map (fun w=>V.str (tx w))).length<sizeLine:=by
      rw [List.length_map,sizeLine_eq]
      have:=List.length_filter_le (fun w:List Nat=>!w.isEmpty) ((spl 32 T.cps.toList).take i)
      rw [List.length_take] at this
      omega
    have tk:(spl 32 T.cps.toList).take (i+1)=(spl 32 T.cps.toList).take i++[(spl 32 T.cps.toList)[i]]:=by
      rw [List.take_add_one,List.getElem?_eq_getElem hi]
      rfl
    refine ⟨_,rfl,rfl,_,rfl,?_⟩
    refine ite2 (fun c=>?_) (fun c=>?_)
    · refine ⟨_,rfl,h2,hlt,nx hi ⟨?_,upd_same,same_upd s2 hp⟩⟩
      have ne:(spl 32 T.cps.toList)[i].isEmpty=false:=by
        cases e:(spl 32 T.cps.toList)[i] with
        | cons a r=>rfl
        | nil =>
          rw [e] at c
          exact absurd c (by decide +kernel)
      rw [tk,List.filter_append,List.map_append]
      simp [ne]
    · refine nx hi ⟨?_,h2,s2⟩
      have ne:(spl 32 T.cps.toList)[i].isEmpty=true:=by
        cases e:(spl 32 T.cps.toList)[i] with
        | nil=>rfl
        | cons a r =>
          refine absurd ?_ c
          rw [e]
          refine (Bool.not_eq_eq_eq_not ..).mpr (decide_eq_false fun z=>?_)
          injection z with z
          have:=congrArg Str.length z
          exact absurd this (by rw [tx_len]; simp [show (Str.ofString "").length=0 by decide +kernel])
      rw [tk,List.filter_append,List.map_append]
      simp [ne]
  · rintro acc H2 ⟨rfl,h2,s2⟩
    refine ⟨⟨_,SqL.of (s2 _ _ h0),by rw [List.length_map]; exact Nat.le_refl _⟩,?_⟩
    rw [List.take_length] at h2
    refine q p H2 (s0.free hp) (s0.trans s2) ?_
    rw [h2,wdsL,r3]
end K55
end
section
set_option maxHeartbeats 1000000
namespace K55
open PySem L2 L3 KM
seal L2.PE L2.PS L2.PSs L2.PT L2.PW L2.PA L2.PG L2.PGs L2.PI L2.PC L2.PO L2.PPs L2.PK L3.PIf
variable {P:Program} {w:World} {K:PySem.W.Frag} {mg:Str→Option Value} {base:Heap} {t:Adr}
def rows18:List (Str×List V):=[("nat",[]),("none",[]),("all",[.str "kind",.str "kind"]),("some",[.str "kind",.str "kind"]),("same",[.str "kind",.str "term",.str "term"]),("var",[]),("fun",[.str "kind",.str "term"]),
  ("app",[.str "term",.str "term"]),("zero",[]),("next",[.str "term"]),("rec",[.str "kind",.str "term",.str "term",.str "term"]),("like",[.str "kind",.str "term"]),("carry",[.str "kind",.str "term",.str "term"]),
  ("never",[.str "kind",.str "term"]),("pair",[.str "kind",.str "term",.str "term"]),("first",[.str "term"]),("second",[.str "term"]),("name",[])]
def cDue (c:Nat):V:=if c=107 then .str "kind" else .str "term"
def rowOk (r:Str×List V):Bool:=match shapeV r.1 with
  | .str s=>decide (s.cps.size≤4) && if r.1 = "var" then decide (s = "n") else if r.1 = "name" then decide (s = "w") else s.cps.toList.all (fun c=>c==107 || c==116) && decide (r.2=s.cps.toList.map cDue)
  | _=>false
theorem rows_ok:rows18.all rowOk=true:=by decide +kernel
theorem lookup_mem {α:Type} {x:Str} {v:α}:∀ {l:List (Str×α)},l.lookup x=some v→(x,v)∈l
  | [],h=>by simp at h
  | (k,u)::l,h=>by
    rw [List.lookup_cons] at h
    cases e:x==k with
    | true =>
      rw [e] at h
      obtain rfl:x=k:=by simpa using e
      cases h
      exact List.mem_cons_self
    | false=>rw [e] at h; exact List.mem_cons_of_mem _ (lookup_mem h)
theorem lookup_none {α:Type} {x:Str}:∀ {l:List (Str×α)},l.lookup x=none→x∉l.map (·.1)
  | [],_=>by simp
  | (k,u)::l,h=>by
    rw [List.lookup_cons] at h
    cases e:x==k with
    | true=>rw [e] at h; cases h
    | false =>
      rw [e] at h
      have:=lookup_none h
      have e:¬ x=k:=by simpa using e
      simp only [List.map_cons,List.mem_cons,not_or]
      exact ⟨e,this⟩
inductive Shp (w:Str):Prop where
  | non (h1:rows18.lookup w=none) (h2:shapeV w=.non)
  | var (h1:rows18.lookup w=some []) (h2:w = "var")
  | name (h1:rows18.lookup w=some []) (h2:w = "name")
  | form (s:Str) (h1:rows18.lookup w=some (s.cps.toList.map cDue)) (h2:shapeV w=.str s) (h3:w ≠ "var") (h4:w ≠ "name") (h5:∀ c∈s.cps.toList,c=107∨c=116) (h6:s.cps.size≤4)
theorem keyNone {tab:List (Key×V)} {w:Str} (h:∀ k∈tab.map (·.1),k≠Sum.inr w):valV tab (Sum.inr w:Key)=none:=by
  cases e:valV tab (Sum.inr w:Key) with
  | none=>rfl
  | some v =>
    exact absurd rfl (h _ (valV_in e))
def keyIn (k:Key) (l:List Str):Bool:=match k with
  | .inr x=>decide (x∈l)
  | .inl _=>true
theorem shp (w:Str):Shp w:=by
  cases h:rows18.lookup w with
  | none =>
    refine .non h ?_
    have nm:=lookup_none h
    have sub:∀ tab:List (Key×V),(tab.map (·.1)).all (fun k=>keyIn k (rows18.map (·.1)))=true→valV tab (Sum.inr w:Key)=none:=fun tab ht=>keyNone fun k hk z=>by
      subst z
      have:=List.all_eq_true.mp ht _ hk
      simp only [keyIn,decide_eq_true_eq] at this
      exact nm this
    have e1:=sub tab1 (by decide +kernel)
    have e2:=sub tab2 (by decide +kernel)
    have e3:=sub tab3 (by decide +kernel)
    unfold shapeV
    rw [e1,e2,e3]
    rfl
  | some ds =>
    have m:=lookup_mem h
    have g:=List.all_eq_true.mp rows_ok _ m
    unfold rowOk at g
    by_cases hv:w = "var"
    · subst hv
      exact .var (by decide +kernel) rfl
    · by_cases hn:w = "name"
      · subst hn
        exact .name (by decide +kernel) rfl
      · cases e:shapeV w with
        | str s =>
          rw [e] at g
          simp only [hv,hn,if_false,Bool.and_eq_true,List.all_eq_true,Bool.or_eq_true,beq_iff_eq,decide_eq_true_eq] at g
          obtain ⟨g1,g2,g3⟩:=g
          exact .form s (by rw [h,g3]) e hv hn g2 g1
        | _=>rw [e] at g; simp at g
end K55
end
section
set_option maxHeartbeats 1000000
namespace K55
open PySem L2 L3 KM
seal L2.PE L2.PS L2.PSs L2.PT L2.PW L2.PA L2.PG L2.PGs L2.PI L2.PC L2.PO L2.PPs L2.PK L3.PIf
variable {P:Program} {w:World} {K:PySem.W.Frag} {mg:Str→Option Value} {base:Heap} {t:Adr}
def leafW (x:Str):Bool:=decide (x = "var") || decide (x = "name")
def kidsD (x:Str) (ps:List D):List D:=if leafW x=true then [] else ps
def spKids:Sp:=fun vs H Q _=>∃ (x:Str) (ps:List D) (v:V),vs=[v]∧Rep H (.tup (.str x::ps)) v∧ps.length≤10∧∀ (a:Addr) (us:List V) (H':Hp),H a=none→Same H H'→H' a=some (.lst us)→Reps H' (kidsD x ps) us→Q (.ref a) H'
theorem sc_kids_of:FnScope ["thing"] ["thing"] (defScope s_kids_of):=⟨rfl,rfl,rfl,by decide +kernel,rfl,by decide +kernel,by decide +kernel⟩
theorem c_kids_of (D:Df K mg "kids_of" s_kids_of ["thing"]) (M:Mg mg t):Cal P w K mg CX0 "kids_of" (1) ["thing"] spKids:=by
  refine D.ok sc_kids_of (fun vs H Q E h=>?_) (fun base f cdv A outer s H vs Q E hr h=>?_)
  · obtain ⟨x,ps,v,rfl,_⟩:=h
    rfl
  obtain ⟨x,ps,v,rfl,r,hl,q⟩:=h
  obtain ⟨a,us,rfl,ha,v0,us,rfl,⟨rfl,hx⟩,rp⟩:=r
  have hlu:=rp.length
  have ea:atI (V.str x::us) 0=some (.str x):=atI_nat (j:=0) rfl
  have hT:SqT K H a (.str x::us):=SqT.of ha
  refine ⟨_,(pss_cons (ps_if (L2.PW.pt (pw_or (pt_cmpR op_eq (pe_ix ix_tup (pv 0) pe_int (fun _ _=>rfl)) pe_str (nomark _)) (pw_or1 (pt_cmpR op_eq (pe_ix ix_tup (pv 0) pe_int (fun _ _=>rfl)) pe_str (nomark _))))) (pss_one (ps_ret (pe_lst pa_nil))) pss_nil)
      (pss_one (ps_ret (pe_callTy call_list_of rfl M.n_list bt_list (pa_cons (pe_slice sl_tupW (pv 0) (po_some pe_int) po_none) pa_nil))))),?_⟩
  try dsimp only [cxK,cxK2]
  refine let2 ?_
  intro _ _
  have leaf:leafW x=true→0≤sizeLine∧∀ p,H p=none→Q (.ref p) (upd H p (.lst [])):=fun c=>⟨Nat.zero_le _,fun p hp=>q p [] _ hp (same_new hp _) upd_same (by unfold kidsD; rw [if_pos c]; exact rfl)⟩
  refine ⟨_,rfl,a,_,_,_,rfl,rfl,hT,ea,rfl,_,rfl,?_⟩
  refine ite2 (fun c=>?_) (fun c=>?_)
  · refine iteT ?_
    have c:V.str x=V.str "var" := of_decide_eq_true c
    cases c
    exact leaf rfl
  refine ⟨_,rfl,a,_,_,_,rfl,rfl,hT,ea,rfl,_,rfl,?_⟩
  refine ite2 (fun c2=>?_) (fun c2=>?_)
  · have c2:V.str x=V.str "name" := of_decide_eq_true c2
    cases c2
    exact leaf (by decide +kernel)
  have nl:leafW x=false:=by
    unfold leafW
    have h1:x ≠ "var" := fun z=>c (by rw [z]; decide +kernel)
    have h2:x ≠ "name" := fun z=>c2 (by rw [z]; decide +kernel)
    simp [h1,h2]
  have nk:kidsD x ps=ps:=by unfold kidsD; rw [nl]; rfl
  rw [nk] at q
  have ec:cutV (V.str x::us) (some 1) none=us:=by
    have:=cutV_from (V.str x::us) 1
    simpa using this
  refine ⟨_,rfl,_,rfl,a,_,rfl,hT,fun p hp=>?_,fun z=>?_⟩
  · rw [ec]
    refine ⟨p,us,rfl,.inr (SqT.of upd_same),fun l hl=>?_⟩
    exact q l us _ ((same_new hp _).free hl) ((same_new hp _).trans (same_new hl _)) upd_same (rp.mono ((same_new hp _).trans (same_new hl _)))
  · rw [ec] at z
    exact absurd (congrArg List.length z) (by simp)
theorem wfL_len {nm:D→Bool}:∀ {cs:List Nat} {ps:List D},wfL nm cs ps=true→cs.length=ps.length
  | [],[],_=>rfl
  | [],_::_,h=>by simp [wfL] at h
  | _::_,[],h=>by simp [wfL] at h
  | c::cs,p::ps,h=>by
    rw [wfL_cons,Bool.and_eq_true] at h
    rw [List.length_cons,List.length_cons,wfL_len h.2]
def ktB (c:Nat):Bool:=!(Builtin.Str.occurrences (Str.ofString "kt") ⟨#[c]⟩ 0 (Str.ofString "kt").length 1).isEmpty
theorem kt1:ktB 107=true:=by decide +kernel
theorem kt2:ktB 116=true:=by decide +kernel
theorem kt3:ktB 110=false:=by decide +kernel
theorem kt4:ktB 119=false:=by decide +kernel
theorem wf_shape {nm:D→Bool} {k:Bool} {x:Str} {ps:List D} (h:wfG nm k (.tup (.str x::ps))=true):∃ s,shapeV x=.str s∧kindW x=k∧wfL nm s.cps.toList ps=true∧s.cps.size≤4∧s.cps.toList.length=ps.length∧(∀ c∈s.cps.toList,ktB c=!leafW x) ∧
    (leafW x=false→∀ c∈s.cps.toList,c=107∨c=116)∧∃ r,rows18.lookup x=some r∧r.length=(kidsD x ps).length:=by
  have key:∀ s,shapeV x=.str s→kindW x=k∧wfL nm s.cps.toList ps=true:=fun s e=>by
    rw [wfG,e,Bool.and_eq_true] at h
    exact ⟨by simpa using h.1,h.2⟩
  cases shp x with
  | non h1 h2=>rw [wfG,h2] at h; simp at h
  | var h1 h2 =>
    subst h2
    obtain ⟨k1,k2⟩:=key _ shape_var
    refine ⟨_,shape_var,k1,k2,by decide,wfL_len k2,fun c hc=>?_,fun z=>absurd z (by decide +kernel),_,h1,by unfold kidsD; rw [if_pos (by decide +kernel)]; rfl⟩
    rw [len_n] at hc
    rw [List.mem_singleton.mp hc,kt3]
    decide +kernel
  | name h1 h2 =>
    subst h2
    obtain ⟨k1,k2⟩:=key _ shape_name
    refine ⟨_,shape_name,k1,k2,by decide,wfL_len k2,fun c hc=>?_,fun z=>absurd z (by decide +kernel),_,h1,by unfold kidsD; rw [if_pos (by decide +kernel)]; rfl⟩
    rw [len_w] at hc
    rw [List.mem_singleton.mp hc,kt4]
    decide +kernel
  | form s h1 h2 h3 h4 h5 h6 =>
    obtain ⟨k1,k2⟩:=key s h2
    have nl:leafW x=false:=by unfold leafW; simp [h3,h4]
    refine ⟨s,h2,k1,k2,h6,wfL_len k2,fun c hc=>?_,fun _=>h5,_,h1,?_⟩
    · rw [nl]
      rcases h5 c hc with z | z <;> rw [z]
      · exact kt1
      · exact kt2
    · unfold kidsD
      rw [nl,List.length_map,wfL_len k2]
      rfl
end K55
end
section
set_option maxHeartbeats 1000000
namespace K55
open PySem L2 L3 KM PyProof.Rows
seal L2.PE L2.PS L2.PSs L2.PT L2.PW L2.PA L2.PG L2.PGs L2.PI L2.PC L2.PO L2.PPs L2.PK L3.PIf
variable {P:Program} {w:World} {K:PySem.W.Frag} {mg:Str→Option Value} {base:Heap} {t:Adr}
def BO:List (Str×V):=[("all",.int 1),("some",.int 1),("fun",.int 1),("rec",.int 0),("carry",.int 0)]
def overV (x:Str):V:=(KTD.datumAt x BO).getD .non
theorem inV_strs (x:Str):∀ ws:List Str,inV (.str x) (ws.map V.str)=decide (x∈ws)
  | []=>rfl
  | y :: ws => by
    have ih:=inV_strs x ws
    unfold inV at ih ⊢
    rw [List.map_cons,List.any_cons,ih]
    show (y==x || decide (x∈ws))=decide (x∈y::ws)
    by_cases e:y=x
    · subst e; simp
    · have e':¬ x=y:=fun z=>e z.symm
      simp [e,e']
theorem flat_strs:∀ ws:List Str,(ws.map V.str).all flatV=true
  | []=>rfl
  | y::ws=>by
    rw [List.map_cons,List.all_cons,flat_strs ws]
    rfl
end K55
end
section
set_option maxHeartbeats 1000000
namespace K55
open PySem L2 L3 KM PyProof.Rows
seal L2.PE L2.PS L2.PSs L2.PT L2.PW L2.PA L2.PG L2.PGs L2.PI L2.PC L2.PO L2.PPs L2.PK L3.PIf
variable {P:Program} {w:World} {K:PySem.W.Frag} {mg:Str→Option Value} {base:Heap} {t:Adr}
theorem depth_get:∀ {ps:List D} {i:Nat} {p:D},ps[i]?=some p→depth p≤depthL ps
  | [],_,_,e=>by simp at e
  | p::ps,0,_,e=>by
    simp at e
    subst e
    simp only [depthL]
    omega
  | _::ps,i+1,p,e=>by
    have:=depth_get (ps:=ps) (i:=i) (by simpa using e)
    simp only [depthL]
    omega
end K55
end
section
set_option maxHeartbeats 1000000
namespace K55
open PySem L2 L3 KM PyProof.Rows
seal L2.PE L2.PS L2.PSs L2.PT L2.PW L2.PA L2.PG L2.PGs L2.PI L2.PC L2.PO L2.PPs L2.PK L3.PIf
variable {P:Program} {w:World} {K:PySem.W.Frag} {mg:Str→Option Value} {base:Heap} {t:Adr}
mutual
def plc:D→List (List Nat)
  | .tup (.str x::ps)=>[]::(if leafW x=true then [] else plcL 0 ps)
  | _=>[]
def plcL:Nat→List D→List (List Nat)
  | _,[]=>[]
  | i,d::ds=>(plc d).map (i::·)++plcL (i+1) ds
end
theorem wf_form {nm:D→Bool} {k:Bool}:∀ {d:D},wfG nm k d=true→∃ x ps,d=.tup (.str x::ps)
  | .tup (.str x::ps),_=>⟨x,ps,rfl⟩
  | .tup [],h=>by simp [wfG] at h
  | .tup (.non::_),h=>by simp [wfG] at h
  | .tup (.bl _::_),h=>by simp [wfG] at h
  | .tup (.int _::_),h=>by simp [wfG] at h
  | .tup (.tup _::_),h=>by simp [wfG] at h
  | .non,h=>by simp [wfG] at h
  | .bl _,h=>by simp [wfG] at h
  | .int _,h=>by simp [wfG] at h
  | .str _,h=>by simp [wfG] at h
theorem wfL_kid {nm:D→Bool}:∀ {cs:List Nat} {ps:List D} {i:Nat} {p:D},wfL nm cs ps=true→(∀ c∈cs,c=107∨c=116)→ps[i]?=some p→∃ k,wfG nm k p=true
  | [],[],_,_,_,_,e=>by simp at e
  | [],_::_,_,_,h,_,_=>by simp [wfL] at h
  | _::_,[],_,_,h,_,_=>by simp [wfL] at h
  | c :: cs, q :: ps, 0, p, h, hc, e => by
    simp at e
    subst e
    rw [wfL_cons,Bool.and_eq_true] at h
    have h1:=h.1
    unfold dueB at h1
    rcases hc c List.mem_cons_self with z | z
    · rw [z,if_pos rfl] at h1
      exact ⟨true,h1⟩
    · rw [z,if_neg (by decide),if_pos rfl] at h1
      exact ⟨false,h1⟩
  | c::cs,q::ps,i+1,p,h,hc,e=>by
    rw [wfL_cons,Bool.and_eq_true] at h
    exact wfL_kid (i:=i) h.2 (fun c hc'=>hc c (List.mem_cons_of_mem _ hc')) (by simpa using e)
theorem wf_kid {k:Bool} {x:Str} {ps:List D} {i:Nat} {p:D} (h:wfG isStrD k (.tup (.str x::ps))=true) (e:(kidsD x ps)[i]?=some p):(∃ k,wfG isStrD k p=true)∧depth p<depth (.tup (.str x::ps)):=by
  obtain ⟨s,h1,h2,h3,h4,h5,h6,h7,_⟩:=wf_shape h
  unfold kidsD at e
  split at e
  · simp at e
  · rename_i nl
    refine ⟨wfL_kid h3 (h7 (by simpa using nl)) e,?_⟩
    have:=depth_get e
    simp only [depth,depthL]
    omega
theorem kids4 {k:Bool} {x:Str} {ps:List D} (h:wfG isStrD k (.tup (.str x::ps))=true):(kidsD x ps).length≤4:=by
  obtain ⟨s,h1,h2,h3,h4,h5,h6,h7,_⟩:=wf_shape h
  unfold kidsD
  split
  · exact Nat.zero_le _
  · rw [← h5]; simpa using h4
structure Rt (d:D) (n:Nat):Prop where
  wf:∃ k,wfG isStrD k d=true
  dp:depth d<n
  ct:(plc d).length≤2000000
  n60:n≤60
theorem wf_nat {nm:D→Bool}  : wfG nm true (.tup [.str "nat"])=true:=by
  refine wfG_mk (w := "nat") (s := "") (by decide +kernel) (by decide +kernel) ?_
  rw [show (Str.ofString "").cps.toList=[] by decide +kernel]
  simp [dueB,wfL]
theorem wf_zero {nm:D→Bool}  : wfG nm false (.tup [.str "zero"])=true:=by
  refine wfG_mk (w := "zero") (s := "") (by decide +kernel) (by decide +kernel) ?_
  rw [show (Str.ofString "").cps.toList=[] by decide +kernel]
  simp [dueB,wfL]
theorem wf_next {nm:D→Bool} {d0:D} (h0:wfG nm false d0=true):wfG nm false (.tup [.str "next",d0])=true:=by
  refine wfG_mk (w := "next") (s := "t") (by decide +kernel) (by decide +kernel) ?_
  rw [show (Str.ofString "t").cps.toList=[116] by decide +kernel,wfL_cons]
  simp [dueB,wfL,h0]
structure Th (d:D) (dp kn:Nat):Prop where
  wf:wfG isStrD false d=true
  dp:depth d≤dp
  kn:knots d≤kn
def Wf (d:D):Prop:=∃ k,wfG isStrD k d=true
theorem wf_ps {d:D} (h:Wf d):∃ x ps k,d=.tup (.str x::ps)∧wfG isStrD k d=true∧ps.length≤10:=by
  obtain ⟨k,h⟩:=h
  obtain ⟨x,ps,rfl⟩:=wf_form h
  obtain ⟨sh,_,_,_,h4,h5,_⟩:=wf_shape h
  refine ⟨x,ps,k,rfl,h,?_⟩
  rw [← h5]
  exact Nat.le_trans (by simpa using h4) (by decide)
end K55
end
section
set_option maxHeartbeats 1000000
namespace K55
open PySem L2 L3 KM
seal L2.PE L2.PS L2.PSs L2.PT L2.PW L2.PA L2.PG L2.PGs L2.PI L2.PC L2.PO L2.PPs L2.PK L3.PIf
variable {P:Program} {w:World} {K:PySem.W.Frag} {mg:Str→Option Value} {base:Heap} {t:Adr}
theorem sizeLine_eq:sizeLine=16777216:=by decide
def okH (d:D):Prop:=d=.non∨d=.tup []∨∃ x,d=.str x
mutual
def okD:D→Prop
  | .tup []=>True
  | .tup (h::ps)=>okH h∧okL ps∧ps.length≤20
  | _=>True
def okL:List D→Prop
  | []=>True
  | p::ps=>okD p∧okL ps
end
mutual
theorem wf_ok:∀ {k:Bool} {d:D},wfG isStrD k d=true→okD d
  | k,.tup (.str x::ps),h=>by
    obtain ⟨s,e1,e2,e3,e4,e5,_⟩:=wf_shape h
    refine ⟨.inr (.inr ⟨x,rfl⟩),wf_okL e3,?_⟩
    have:s.cps.toList.length=s.cps.size:=by simp
    omega
  | k,.tup [],h=>by simp [wfG] at h
  | k,.tup (.non::_),h=>by simp [wfG] at h
  | k,.tup (.bl _::_),h=>by simp [wfG] at h
  | k,.tup (.int _::_),h=>by simp [wfG] at h
  | k,.tup (.tup _::_),h=>by simp [wfG] at h
  | k,.non,h=>by simp [wfG] at h
  | k,.bl _,h=>by simp [wfG] at h
  | k,.int _,h=>by simp [wfG] at h
  | k,.str _,h=>by simp [wfG] at h
theorem wf_okL:∀ {cs:List Nat} {ps:List D},wfL isStrD cs ps=true→okL ps
  | [],[],_=>trivial
  | [],_::_,h=>by simp [wfL] at h
  | _::_,[],h=>by simp [wfL] at h
  | c :: cs, p :: ps, h => by
    rw [wfL_cons,Bool.and_eq_true] at h
    refine ⟨?_,wf_okL h.2⟩
    have h:=h.1
    unfold dueB at h
    by_cases c1:c=107
    · rw [if_pos c1] at h; exact wf_ok h
    · rw [if_neg c1] at h
      by_cases c2:c=116
      · rw [if_pos c2] at h; exact wf_ok h
      · rw [if_neg c2] at h
        cases p <;> first | trivial | (simp [numD,isStrD] at h; done)
end
theorem ok_len:∀ {ds:List D},okD (.tup ds)→ds.length≤21
  | [],_=>by simp
  | _::ps,h=>by have:=h.2.2; simp; omega
theorem okL_mem:∀ {ps:List D} {p:D},okL ps→p∈ps→okD p
  | [],_,_,e=>by simp at e
  | q::ps,p,h,e=>by
    rcases List.mem_cons.mp e with rfl | e
    · exact h.1
    · exact okL_mem h.2 e
theorem ok_tk:∀ {d:D},okD d→∀ x∈tk d,okD x
  | .tup [],_,x,hx=>by simp [tk] at hx
  | .tup (h::ps),ok,x,hx=>by
    have hm:x∈h::ps:=(List.mem_filter.mp hx).1
    rcases List.mem_cons.mp hm with rfl | hm
    · rcases ok.1 with rfl | rfl | ⟨y,rfl⟩ <;> simp [okD]
    · exact okL_mem ok.2.1 hm
  | .non,_,x,hx=>by simp [tk] at hx
  | .bl _,_,x,hx=>by simp [tk] at hx
  | .int _,_,x,hx=>by simp [tk] at hx
  | .str _,_,x,hx=>by simp [tk] at hx
theorem ok_lv:∀ (n:Nat) (l:List D),(∀ x∈l,okD x)→∀ x∈lv n l,okD x
  | 0,_,h=>h
  | n+1,l,h=>ok_lv n _ fun x hx=>by
    obtain ⟨d,hd,hx⟩:=List.mem_flatMap.mp hx
    exact ok_tk (h d hd) x hx
def vastD (d:D):Bool:=!(decide (knots d≤600) && decide (depth d≤40))
def spVast:Sp:=fun vs H Q _=>∃ ds v,vs=[v]∧Rep H (.tup ds) v∧okD (.tup ds)∧knots (.tup ds)≤8000000∧∀ H',Same H H'→Q (.bl (vastD (.tup ds))) H'
def pickT (ds:List D) (vs:List V) (j:Nat):Option V:=if isTup ((ds[j]?).getD .non) then vs[j]? else none
theorem reps_pick {H:Hp}:∀ {ds:List D} {vs:List V},Reps H ds vs→Reps H (ds.filter isTup) ((List.range vs.length).filterMap (pickT ds vs))
  | [],_,r=>by
    have r:_=[]:=r
    subst r
    exact rfl
  | d :: ds, _, ⟨v, vr, e, q, t⟩ => by
    subst e
    have ih:=reps_pick t
    rw [List.length_cons,List.range_succ_eq_map,List.filterMap_cons,List.filterMap_map]
    have e:(pickT (d::ds) (v::vr) ∘ Nat.succ)=pickT ds vr:=by
      funext j
      simp [pickT]
    rw [e]
    by_cases hd:isTup d=true
    · rw [List.filter_cons_of_pos hd]
      have e0:pickT (d::ds) (v::vr) 0=some v:=by simp [pickT,hd]
      simp only [e0]
      exact ⟨v,_,rfl,q,ih⟩
    · rw [List.filter_cons_of_neg hd]
      have e0:pickT (d::ds) (v::vr) 0=none:=by simp [pickT,hd]
      simp only [e0]
      exact ih
theorem tups_one (ds:List D):∀ x∈[D.tup ds],isTup x=true:=fun x hx=>by
  rw [List.mem_singleton.mp hx]; rfl
theorem knots_one (ds:List D):knotsL [D.tup ds]=knots (.tup ds):=by simp [knotsL]
theorem depth_one (ds:List D):depthL [D.tup ds]=depth (.tup ds):=by simp [depthL]
theorem lv_len (i:Nat) (ds:List D):(lv i [D.tup ds]).length≤knots (.tup ds):=by
  have h:=upto_knots (i+1) [D.tup ds] (tups_one ds)
  rw [knots_one] at h
  simp only [upto] at h
  omega
theorem flat_take_len (l:List D) (j:Nat):((l.take j).flatMap tk).length≤(l.flatMap tk).length:=by
  have e:l.flatMap tk=(l.take j).flatMap tk++(l.drop j).flatMap tk:=by rw [← List.flatMap_append,List.take_append_drop]
  rw [e,List.length_append]
  omega
theorem flat_len {L:Nat}:∀ (l:List D),(∀ d∈l,(tk d).length≤L)→(l.flatMap tk).length≤l.length*L
  | [],_=>by simp
  | d::l,h=>by
    rw [List.flatMap_cons,List.length_append,List.length_cons,Nat.add_mul,Nat.one_mul]
    have:=flat_len l fun x hx=>h x (List.mem_cons_of_mem _ hx)
    have:=h d List.mem_cons_self
    omega
theorem tk_len {d:D} (h:okD d):(tk d).length≤21:=by
  cases d with
  | tup es=>exact Nat.le_trans (List.length_filter_le _ _) (ok_len h)
  | _=>simp [tk]
theorem vast_yes {ds:List D} {i:Nat} (h:600<upto i [D.tup ds]):vastD (.tup ds)=true:=by
  have:=upto_knots i [D.tup ds] (tups_one ds)
  rw [knots_one] at this
  unfold vastD
  rw [decide_eq_false (by omega)]
  rfl
theorem vast_end {ds:List D} (h:upto 40 [D.tup ds]≤600):vastD (.tup ds)=decide (0<(lv 40 [D.tup ds]).length):=by
  have e:=small_iff [D.tup ds] (tups_one ds)
  rw [knots_one,depth_one] at e
  unfold vastD
  by_cases hz:lv 40 [D.tup ds]=[]
  · obtain ⟨a,b⟩:=e.mp ⟨h,hz⟩
    rw [decide_eq_true a,decide_eq_true b,hz]
    rfl
  · have:¬ (knots (.tup ds)≤600∧depth (.tup ds)≤40):=fun z=>hz (e.mpr z).2
    have hl:0<(lv 40 [D.tup ds]).length:=List.length_pos_iff.mpr hz
    rw [decide_eq_true hl]
    by_cases a:knots (.tup ds)≤600
    · rw [decide_eq_false fun b=>this ⟨a,b⟩,Bool.and_false]; rfl
    · rw [decide_eq_false a]; rfl
theorem sc_is_vast:FnScope ["value", "level", "knots", "depth", "below", "knot"] ["value"] (defScope s_is_vast):=⟨rfl,rfl,rfl,by decide +kernel,rfl,by decide +kernel,by decide +kernel⟩
theorem c_is_vast (D:Df K mg "is_vast" s_is_vast ["value"]) (M:Mg mg t):Cal P w K mg CX0 "is_vast" (1) ["value"] spVast:=by
  refine D.ok sc_is_vast (fun vs H Q E h=>?_) (fun base f cdv A outer s H vs Q E hr h=>?_)
  · obtain ⟨d,v,rfl,_⟩:=h
    rfl
  obtain ⟨ds,v,rfl,r,ok,hk,q⟩:=h
  refine ⟨_,(pss_cons (ps_set (i:=1) sc_is_vast.nd rfl (by first | exact Or.inl rfl | exact Or.inr rfl) (pe_lst (pa_cons (pv 0) pa_nil)))
      (pss_cons (ps_set (i:=2) sc_is_vast.nd rfl (by first | exact Or.inl rfl | exact Or.inr rfl) pe_int)
      (pss_cons (ps_for PassesOwn.never rfl (pi_range1 rfl M.n_range (pa_cons (pe_gint M.g_MOST_DEEP rfl) pa_nil)) (pg_name (i:=3) sc_is_vast.nd rfl (by first | exact Or.inl rfl | exact Or.inr rfl)) (pss_cons (ps_aug (i:=2) sc_is_vast.nd rfl (by first | exact Or.inl rfl | exact Or.inr rfl) (pe_callB call_len_seq rfl M.n_len bt_len (pa_cons (pv 1) pa_nil)) ip_add)
      (pss_cons (ps_if (pt_cmpR op_gt (pv 2) (pe_gint M.g_MOST_KNOTS rfl) (nomark _)) (pss_one (ps_ret pe_bl)) pss_nil)
      (pss_cons (ps_set (i:=4) sc_is_vast.nd rfl (by first | exact Or.inl rfl | exact Or.inr rfl) (pe_lst pa_nil))
      (pss_cons (ps_for PassesOwn.never rfl (pi_list (pv 1)) (pg_name (i:=5) sc_is_vast.nd rfl (by first | exact Or.inl rfl | exact Or.inr rfl)) (pss_one (ps_expr (pe_bm PySem.F.plainAttrs_list PySem.F.slot_list_extend PySem.F.type_list_extend mt_extend (pv 4) (pa_cons (pe_comp (N':=["part"]) (own:=1) (fr:=[]) rfl (blk_of (N:=["value", "level", "knots", "depth", "below", "knot"]) (sc:=defScope s_is_vast) rfl rfl rfl (by decide +kernel)) (pi_tup (pv 5)) (own_name (by decide)) (fun _ _ _=>(pg_name (i:=0) (show List.Nodup (["part"]:List Str) by decide +kernel) rfl (Or.inl rfl))) (fun _ _ _=>(pif_one (pt_val (pe_callB (call_isinstK (K:=K)) rfl M.n_isinstance bt_isinstance (pa_cons (pv 0) (pa_cons (pe_ty M.n_tuple bt_tuple rfl) pa_nil)))))) (fun _ _ _=>(pv 0))) pa_nil)))))
      (pss_one (ps_set (i:=1) sc_is_vast.nd rfl (by first | exact Or.inl rfl | exact Or.inr rfl) (pv 4))))))))
      (pss_one (ps_ret (pe_cmpR op_gt (pe_callB call_len_seq rfl M.n_len bt_len (pa_cons (pv 1) pa_nil)) pe_int (nomark _))))))),?_⟩
  try dsimp only [cxK,cxK2]
  refine let4 ?_
  intro _ _ _ _
  refine ⟨_,rfl,(by show 1≤sizeLine; decide),fun q1 hq1=>?_⟩
  have e1:(upd H q1 (.lst [v])) q1=some (.lst [v]):=upd_same
  have s1:Same H (upd H q1 (.lst [v])):=same_new hq1 _
  refine ⟨40,rfl,by decide,by decide,for_range (n:=40) (fun i σ' H'=>∃ (q:Addr) (us:List V) (k3 k4 k5:Option V),σ'=[some v,some (.ref q),some (.int (upto i [KM.D.tup ds])),k3,k4,k5]∧H' q=some (.lst us) ∧
    Reps H' (lv i [KM.D.tup ds]) us∧upto i [KM.D.tup ds]≤600∧Same H H') ?_ ?_ ?_⟩
  · exact ⟨q1,[v],none,none,none,rfl,e1,Reps.one (r.mono s1),by simp [upto],s1⟩
  · rintro i σ' H2 hi ⟨q2,us,k3,k4,k5,rfl,hq2,rp,hup,s2⟩
    have lus:=rp.length
    have lvl:=lv_len i ds
    refine ⟨_,rfl,_,rfl,q2,us,rfl,.inl (SqL.of hq2),_,_,rfl,rfl,?_⟩
    have eu:((upto i [KM.D.tup ds]:Nat):Int)+((us.length:Nat):Int)=((upto (i+1) [KM.D.tup ds]:Nat):Int):=by
      simp only [upto]
      omega
    show tSeq _ _ _ [some v,some (.ref q2),some (.int (((upto i [KM.D.tup ds]:Nat):Int)+((us.length:Nat):Int))),some (.int (0+(i:Int))),k4,k5] H2
    rw [eu]
    refine ⟨_,rfl,_,_,rfl,rfl,_,rfl,?_⟩
    refine ite2 (fun c=>?_) (fun c=>?_)
    · have c:(600:Int)<((upto (i+1) [KM.D.tup ds]:Nat):Int):=of_decide_eq_true c
      have e:=vast_yes (ds:=ds) (i:=i+1) (by omega)
      rw [e] at q
      exact q H2 s2
    have c:¬ (600:Int)<((upto (i+1) [KM.D.tup ds]:Nat):Int):=of_decide_eq_false (Bool.eq_false_iff.mpr c)
    refine ⟨by show 0≤sizeLine; decide,fun q4 hq4=>?_⟩
    have e4:(upd H2 q4 (.lst [])) q4=some (.lst []):=upd_same
    have s4:Same H2 (upd H2 q4 (.lst [])):=same_new hq4 _
    refine ⟨_,rfl,q2,rfl,⟨us,SqL.of (s4 _ _ hq2)⟩,for_list (xs:=us) (fun j σ' H'=>∃ (bs:List V) (k5:Option V),σ'=[some v,some (.ref q2),some (.int (upto (i+1) [KM.D.tup ds])),some (.int (0+(i:Int))),some (.ref q4),k5] ∧
      H' q4=some (.lst bs)∧Reps H' (((lv i [KM.D.tup ds]).take j).flatMap tk) bs∧Same H2 H') ?_ ?_ ?_ ?_⟩
    · exact ⟨[],k5,rfl,e4,by simp [Reps],s4⟩
    · rintro j σ' H' _ ⟨bs,k5,rfl,h4,rb,s'⟩
      exact SqL.of (s' _ _ hq2)
    · rintro j u σ' H5 hu ⟨bs,k5,rfl,h4,rb,s5⟩
      obtain ⟨d,hd,rd⟩:=rp.get' hu
      have htd:=lv_tups i [KM.D.tup ds] (tups_one ds) d (List.mem_of_getElem? hd)
      obtain ⟨es,rfl⟩:∃ es,d=.tup es:=by
        cases d <;> first | exact ⟨_,rfl⟩ | cases htd
      obtain ⟨a,ws,rfl,ha,rw'⟩:=rd.mono s5
      have hsz:ws.length≤sizeLine:=by
        have h1:=rw'.length
        have h2:=ok_len (ok_lv i [KM.D.tup ds] (fun x hx=>by rw [List.mem_singleton.mp hx]; exact ok) _ (List.mem_of_getElem? hd))
        rw [sizeLine_eq]
        omega
      refine ⟨_,rfl,.inl ⟨rfl,_,SqL.of h4⟩,_,rfl,a,rfl,⟨ws,SqT.of ha⟩,fun p hp=>comp_opt ws.length (pickT es ws) hp hsz (fun k H6 hk6 s6=>?_) fun H6 s6 h6=>?_⟩
      · obtain ⟨wk,hwk⟩:∃ x,ws[k]?=some x:=⟨_,List.getElem?_eq_getElem hk6⟩
        have hqa:SqT K H6 a ws:=SqT.of (s6 _ _ ha)
        refine ⟨⟨ws,wk,hqa,hwk⟩,?_⟩
        rintro x' H7 ⟨rfl,hy⟩ R R0 hR hR0
        have hx:=hy ws hqa
        rw [hwk] at hx
        cases hx
        obtain ⟨dk,hdk,rk⟩:=rw'.get' hwk
        refine ⟨_,rfl,_,_,_,_,rfl,(Rep.mono s6 rk).ty,kit_tup _ dk,_,rfl,?_⟩
        refine ite2 (fun c=>?_) (fun c=>?_)
        · exact ⟨_,rfl,hR wk H7 (by simp [pickT,hdk,c,hwk]) (Same.refl _)⟩
        · exact hR0 H7 (by simp [pickT,hdk,c]) (Same.refl _)
      · have lb:=rb.length
        have h4':=s6 _ _ h4
        have n4:q4≠p:=ne_of_none h4 hp
        have hl:(lv i [KM.D.tup ds]).take (j+1)=(lv i [KM.D.tup ds]).take j++[KM.D.tup es]:=by rw [List.take_add_one,hd]; rfl
        have hfl:((lv i [KM.D.tup ds]).take (j+1)).flatMap tk=((lv i [KM.D.tup ds]).take j).flatMap tk++es.filter isTup:=by rw [hl,List.flatMap_append]; simp [tk]
        have rpk:=reps_pick (rw'.mono s6)
        have lpk:=rpk.length
        have lfl:=flat_take_len (lv i [KM.D.tup ds]) (j+1)
        rw [← lv_succ,hfl,List.length_append] at lfl
        have lv1:(lv (i+1) [KM.D.tup ds]).length≤600*21:=by
          rw [lv_succ]
          refine Nat.le_trans (flat_len _ fun x hx=>tk_len (ok_lv i [KM.D.tup ds] (fun x hx=>by rw [List.mem_singleton.mp hx]; exact ok) x hx)) (Nat.mul_le_mul_right _ ?_)
          simp only [upto] at c
          omega
        have np:∀ vs,H6 q4≠some (.tup vs):=fun vs z=>by rw [h4'] at z; cases z
        refine ⟨⟨ws,SqT.of (s6 _ _ ha),Nat.le_refl _⟩,q4,p,_,_,rfl,rfl,h4',h6,?_,?_⟩
        · rw [lb,lpk,sizeLine_eq]
          omega
        · refine ⟨_,_,rfl,upd_same,?_,fun b o hb=>?_⟩
          · rw [hfl]
            exact Reps.monoX (SameX.upd _) np ((rb.mono s6).append rpk)
          · rw [upd_ne (ne_of_none hb hq4)]
            exact s6 _ _ (s5 _ _ hb)
    · rintro σ' H5 ⟨bs,k5,rfl,h4,rb,s5⟩
      rw [List.take_of_length_le (by omega),← lv_succ] at rb
      refine ⟨_,rfl,q4,bs,_,_,_,rfl,h4,rb,by omega,s2.trans s5⟩
  · rintro σ' H2 ⟨q2,us,k3,k4,k5,rfl,hq2,rp,hup,s2⟩
    refine ⟨_,rfl,q2,us,rfl,.inl (SqL.of hq2),_,_,rfl,rfl,?_⟩
    have e:decide ((0:Int)<((us.length:Nat):Int))=vastD (.tup ds):=by
      rw [vast_end hup,rp.length]
      simp
    show Q (.bl (decide ((0:Int)<((us.length:Nat):Int)))) H2
    rw [e]
    exact q H2 s2
end K55
end
section
set_option maxHeartbeats 1000000
namespace K55
open PySem L2 L3 KM PyProof.Rows
seal L2.PE L2.PS L2.PSs L2.PT L2.PW L2.PA L2.PG L2.PGs L2.PI L2.PC L2.PO L2.PPs L2.PK L3.PIf
variable {P:Program} {w:World} {K:PySem.W.Frag} {mg:Str→Option Value} {base:Heap} {t:Adr}
theorem leaf_flat {k:Bool} {x:Str} {ps:List D} (h:wfG isStrD k (.tup (.str x::ps))=true) (hx:leafW x=true):∀ (i:Nat) (p:D),ps[i]?=some p→isTup p=false∧(numD p=true∨isStrD p=true):=by
  obtain ⟨s,h1,h2,h3,h4,h5,h6,h7,_⟩:=wf_shape h
  have hc:∀ (cs:List Nat) (qs:List D) (i:Nat),wfL isStrD cs qs=true→(∀ c∈cs,ktB c=!leafW x)→∀ p,qs[i]?=some p→isTup p=false∧(numD p=true∨isStrD p=true):=fun cs=>by
    induction cs with
    | nil =>
      intro qs i hq _ p e
      cases qs with
      | nil=>simp at e
      | cons _ _=>simp [wfL] at hq
    | cons c cs ih =>
      intro qs i hq hk p e
      cases qs with
      | nil=>simp [wfL] at hq
      | cons q qs =>
        rw [wfL_cons,Bool.and_eq_true] at hq
        cases i with
        | zero =>
          simp at e
          subst e
          have hkc:=hk c List.mem_cons_self
          rw [hx] at hkc
          have hq1:=hq.1
          unfold dueB at hq1
          rw [if_neg (fun z=>by rw [z,kt1] at hkc; cases hkc),if_neg (fun z=>by rw [z,kt2] at hkc; cases hkc)] at hq1
          split at hq1
          · exact ⟨by cases q <;> simp [numD] at hq1 <;> rfl,.inl hq1⟩
          · exact ⟨by cases q <;> simp [isStrD] at hq1 <;> rfl,.inr hq1⟩
        | succ i=>exact ih qs i hq.2 (fun c hc=>hk c (List.mem_cons_of_mem _ hc)) p (by simpa using e)
  exact fun i p e=>hc _ ps i h3 h6 p e
theorem flat_zero:∀ (ps:List D),(∀ (i:Nat) (p:D),ps[i]?=some p→isTup p=false)→knotsL ps=0∧depthL ps=0
  | [],_=>⟨rfl,rfl⟩
  | p::ps,h=>by
    obtain ⟨h1,h2⟩:=flat_zero ps fun i q e=>h (i+1) q (by simpa using e)
    have h0:=h 0 p rfl
    have e1:knots p=0:=by cases p <;> first | rfl | simp [isTup] at h0
    have e2:depth p=0:=by cases p <;> first | rfl | simp [isTup] at h0
    simp [knotsL,depthL,h1,h2,e1,e2]
theorem knotsL_sum:∀ ps:List D,knotsL ps=(ps.map knots).sum
  | []=>rfl
  | p::ps=>by simp [knotsL,knotsL_sum ps]
theorem depthL_max:∀ ps:List D,depthL ps=maxN (ps.map depth)
  | []=>rfl
  | p::ps=>by rw [depthL,depthL_max ps]; rfl
theorem knots_kids {k:Bool} {x:Str} {ps:List D} (h:wfG isStrD k (.tup (.str x::ps))=true):knots (.tup (.str x::ps))=1+((kidsD x ps).map knots).sum∧depth (.tup (.str x::ps))=1+maxN ((kidsD x ps).map depth):=by
  rw [← knotsL_sum,← depthL_max]
  have e1:knots (.tup (.str x::ps))=1+knotsL ps:=by simp [knots,knotsL]
  have e2:depth (.tup (.str x::ps))=1+depthL ps:=by simp [depth,depthL]
  rw [e1,e2]
  unfold kidsD
  by_cases hx:leafW x=true
  · obtain ⟨z1,z2⟩:=flat_zero ps fun i p e=>(leaf_flat h hx i p e).1
    rw [if_pos hx,z1,z2]
    exact ⟨rfl,rfl⟩
  · rw [if_neg hx]
    exact ⟨rfl,rfl⟩
structure Rz (d:D) (n:Nat):Prop where
  wf:Wf d
  dp:depth d<n
  kn:knots d≤8000000
theorem Rz.kid {n:Nat} {x:Str} {ps:List D} {i:Nat} {p:D} (h:Rz (.tup (.str x::ps)) (n+1)) (e:(kidsD x ps)[i]?=some p):Rz p n:=by
  obtain ⟨k,wf⟩:=h.wf
  obtain ⟨w1,w2⟩:=wf_kid wf e
  have hd:=h.dp
  have hk:=h.kn
  refine ⟨w1,by omega,?_⟩
  rw [(knots_kids wf).1] at hk
  have:=get_le_sum ((kidsD x ps).map knots) i
  rw [List.getElem?_map,e] at this
  have:knots p≤((kidsD x ps).map knots).sum:=this
  omega
mutual
def bigD:D→Bool
  | .int i=>decide (99<i)
  | .tup ds=>bigL ds
  | _=>false
def bigL:List D→Bool
  | []=>false
  | d::ds=>bigD d || bigL ds
end
theorem bigL_of {ds:List D}:∀ {ns:List Int},ns.length=ds.length→(∀ (i:Nat) (z:Int),ns[i]?=some z→decide (99<z)=bigD ((ds[i]?).getD .non))→bigL ds=ns.any fun z=>decide (99<z):=by
  induction ds with
  | nil =>
    intro ns h _
    cases ns with
    | nil=>rfl
    | cons _ _=>simp at h
  | cons d ds ih =>
    intro ns h hB
    cases ns with
    | nil=>simp at h
    | cons z ns =>
      rw [bigL,List.any_cons,ih (by simpa using h) (fun i z e=>by simpa using hB (i+1) z (by simpa using e)),hB 0 z rfl]
      rfl
theorem any_max (b:Int):∀ (ns:List Int) (d:Int),d≤b→decide (b<maxD ns d)=ns.any fun z=>decide (b<z)
  | [],d,h=>by
    show decide (b<d)=false
    exact decide_eq_false (by omega)
  | a :: r, d, _ => by
    show decide (b<r.foldl mxI a)=_
    rw [List.any_cons]
    induction r generalizing a with
    | nil=>exact (Bool.or_false _).symm
    | cons c r ih =>
      rw [List.foldl_cons,ih,List.any_cons,← Bool.or_assoc]
      congr 1
      unfold mxI
      by_cases h1:b<a <;> by_cases h2:b<c <;> simp [h1,h2] <;> split <;> omega
theorem leaf_big {x:Str} {ps:List D} {k:Bool} (wf:wfG isStrD k (.tup (.str x::ps))=true) (hx:leafW x=true) (hv:x ≠ "var"):∀ (i:Nat) (p:D),ps[i]?=some p→bigD p=false:=fun i p e=>by
  have hx:x = "name" := by
    unfold leafW at hx
    simp [hv] at hx
    exact hx
  subst hx
  obtain ⟨sh,e1,_,e3,_,e5,_⟩:=wf_shape wf
  rw [shape_name] at e1
  cases e1
  rw [len_w] at e3 e5
  cases ps with
  | nil=>simp at e
  | cons p0 rest=>cases rest with
    | cons _ _=>simp at e5
    | nil =>
      rw [wfL_cons,Bool.and_eq_true] at e3
      have hn:isStrD p0=true:=by simpa [dueB] using e3.1
      cases i with
      | succ i=>simp at e
      | zero =>
        simp at e
        subst e
        cases p0 <;> first | rfl | simp [isStrD] at hn
theorem big_end {x:Str} {ps:List D} {k:Bool} {ns:List Int} {d:Int} (wf:wfG isStrD k (.tup (.str x::ps))=true) (hv:x ≠ "var") (hd:d≤99) (hl:ns.length=(kidsD x ps).length) (hB:∀ (i:Nat) (z:Int),ns[i]?=some z→decide (99<z)=bigD (((kidsD x ps)[i]?).getD .non)):decide (99<maxD ns d)=bigD (.tup (.str x::ps)):=by
  rw [any_max 99 ns d hd,← bigL_of hl hB]
  show _=(false || bigL ps)
  rw [Bool.false_or]
  unfold kidsD
  split
  · rename_i hx
    symm
    show bigL ps=false
    have key:∀ qs:List D,(∀ p∈qs,bigD p=false)→bigL qs=false:=fun qs=>by
      induction qs with
      | nil=>intro _; rfl
      | cons q qs ih=>intro h; rw [bigL,h q List.mem_cons_self,ih fun p hp=>h p (List.mem_cons_of_mem _ hp)]; rfl
    refine key ps fun p hp=>?_
    obtain ⟨i,hi,rfl⟩:=List.mem_iff_getElem.mp hp
    exact leaf_big wf hx hv i _ (List.getElem?_eq_getElem hi)
  · rfl
def spTop (n:Nat):Sp:=fun vs H Q _=>∃ (d:D) (v:V),vs=[v]∧Rep H d v∧Rz d n∧∀ (i:Int) (H':Hp),decide (99<i)=bigD d→Same H H'→Q (.int i) H'
end K55
end
section
set_option maxHeartbeats 1000000
namespace K55
open PySem L2 L3 KM PyProof.Rows
seal L2.PE L2.PS L2.PSs L2.PT L2.PW L2.PA L2.PG L2.PGs L2.PI L2.PC L2.PO L2.PPs L2.PK L3.PIf
variable {P:Program} {w:World} {K:PySem.W.Frag} {mg:Str→Option Value} {base:Heap} {t:Adr}
theorem sc_top_variable:FnScope ["thing"] ["thing"] (defScope s_top_variable):=⟨rfl,rfl,rfl,by decide +kernel,rfl,by decide +kernel,by decide +kernel⟩
theorem st_top_variable {n:Nat} (D:Df K mg "top_variable" s_top_variable ["thing"]) (M:Mg mg t) (F_kids_of:Cal P w K mg CX0 "kids_of" (1) ["thing"] spKids) (F_top_variable:Cal P w K mg CX0 "top_variable" (n+3) ["thing"] (spTop n)):Cal P w K mg CX0 "top_variable" (n+4) ["thing"] (spTop (n+1)):=by
  refine D.ok sc_top_variable (fun vs H Q E h=>?_) (fun base f cdv A outer s H vs Q E hr h=>?_)
  · obtain ⟨d,v,rfl,_⟩:=h
    rfl
  obtain ⟨d,v,rfl,r,rz,q⟩:=h
  obtain ⟨x,ps,k,rfl,wf,hps⟩:=wf_ps rz.wf
  have hk4:=kids4 wf
  obtain ⟨a,us0,rfl,ha,v0,us0,rfl,⟨rfl,hx⟩,rp⟩:=id r
  have ea:atI (V.str x::us0) 0=some (.str x):=atI_nat (j:=0) rfl
  refine ⟨_,(pss_cons (ps_if (pt_cmpR op_eq (pe_ix ix_tup (pv 0) pe_int (fun _ _=>rfl)) pe_str (nomark _)) (pss_one (ps_ret (pe_ix ix_tup (pv 0) pe_int (fun _ _=>rfl)))) pss_nil)
      (pss_one (ps_ret (pe_maxD M.n_max (pa_cons (pe_comp (N':=["kid"]) (own:=1) (fr:=[]) rfl (blk_of (N:=["thing"]) (sc:=defScope s_top_variable) rfl rfl rfl (by decide +kernel)) (pi_list (pe_fn F_kids_of (hr.mono (by omega)) rfl pass0 (pa_cons (pv 0) pa_nil))) (own_name (by decide)) (fun _ _ _=>(pg_name (i:=0) (show List.Nodup (["kid"]:List Str) by decide +kernel) rfl (Or.inl rfl))) (fun _ _ _=>pif_nil) (fun _ _ _=>(pe_fn F_top_variable (hr.mono (by omega)) rfl pass0 (pa_cons (pv 0) pa_nil)))) pa_nil) (pk_cons pe_int pk_nil))))),?_⟩
  try dsimp only [cxK,cxK2]
  refine let2 ?_
  intro _ _
  refine ⟨_,rfl,a,_,_,_,rfl,rfl,SqT.of ha,ea,rfl,_,rfl,?_⟩
  refine ite2 (fun c=>?_) (fun c=>?_)
  · have c:V.str x=V.str "var" := of_decide_eq_true c
    cases c
    obtain ⟨sh,e1,_,e3,_,e5,_⟩:=wf_shape wf
    rw [shape_var] at e1
    cases e1
    rw [len_n] at e3 e5
    obtain ⟨p0,rfl⟩:∃ p0,ps=[p0]:=by
      cases ps with
      | nil=>simp at e5
      | cons p0 rest=>cases rest with
        | nil=>exact ⟨p0,rfl⟩
        | cons _ _=>simp at e5
    rw [wfL_cons,Bool.and_eq_true] at e3
    have hn:numD p0=true:=by simpa [dueB] using e3.1
    obtain ⟨i,rfl⟩:∃ i,p0=.int i:=by cases p0 <;> first | exact ⟨_,rfl⟩ | simp [numD] at hn
    obtain ⟨u1,us1,rfl,r1,_⟩:=rp
    cases (show u1=V.int i from r1)
    have hi:decide (99<i)=bigD (.tup [.str "var",.int i]):=by simp [bigD,bigL]
    exact ⟨_,rfl,a,_,_,.int i,rfl,rfl,SqT.of ha,atI_nat (j:=1) rfl,q i H hi (Same.refl H)⟩
  refine ⟨_,rfl,x,ps,_,rfl,r,hps,fun p1 us H1 _ s1 h1 r1=>⟨p1,rfl,⟨us,SqL.of h1⟩,fun p2 hp2=>?_⟩⟩
  have l1:=r1.length
  refine comp_ints (kidsD x ps).length (fun i z=>decide (99<z)=bigD (((kidsD x ps)[i]?).getD .non)) hp2 (Nat.le_trans hk4 (by decide)) (fun i H2 hi s2=>?_) fun ns H2 s2 hl hB h2=>⟨⟨us,SqL.of (s2 _ _ h1),by omega⟩,?_⟩
  · obtain ⟨di,hdi⟩:∃ di,(kidsD x ps)[i]?=some di:=⟨_,List.getElem?_eq_getElem hi⟩
    obtain ⟨ui,hui,rui⟩:=r1.get hdi
    refine ⟨⟨us,ui,SqL.of (s2 _ _ h1),hui⟩,?_⟩
    rintro y H3 ⟨rfl,hy⟩ R hR
    have hx:=hy us (SqL.of (s2 _ _ h1))
    rw [hui] at hx
    cases hx
    exact ⟨_,rfl,di,ui,rfl,rui.mono s2,rz.kid hdi,fun z H4 hz s4=>hR z H4 s4 (by rw [hdi]; exact hz)⟩
  · refine ⟨p2,ns,_,rfl,rfl,SqL.of h2,?_⟩
    exact q _ H2 (big_end wf (fun z=>c (by rw [z]; exact decide_eq_true rfl)) (by decide) hl hB) (s1.trans s2)
theorem c_top_variable (D:Df K mg "top_variable" s_top_variable ["thing"]) (M:Mg mg t) (F_kids_of:Cal P w K mg CX0 "kids_of" (1) ["thing"] spKids):∀ n:Nat,Cal P w K mg CX0 "top_variable" (n+3) ["thing"] (spTop n)
  | 0=>Cal.never D fun vs H Q E ⟨d,v,_,_,h,_⟩=>absurd h.dp (Nat.not_lt_zero _)
  | n+1=>st_top_variable D M F_kids_of (c_top_variable D M F_kids_of n)
structure Rb (d:D) (n:Nat):Prop where
  wf:Wf d
  kn:knots d≤8000000
def spBounded (C:Addr) (n:Nat):Sp:=fun vs H Q E=>∃ (d:D) (v:V),vs=[v]∧Rep H d v∧Rb d n∧(∀ H',Same H H'→(vastD d || bigD d)=false→Q v H')∧(∀ H',Same H H'→(vastD d || bigD d)=true→E (.ref C) none H')
theorem sc_bounded:FnScope ["thing"] ["thing"] (defScope s_bounded):=⟨rfl,rfl,rfl,by decide +kernel,rfl,by decide +kernel,by decide +kernel⟩
theorem c_bounded (D:Df K mg "bounded" s_bounded ["thing"]) (M:Mg mg t) (E_Great:ExcK K t.Great) (F_is_vast:Cal P w K mg CX0 "is_vast" (1) ["value"] spVast) (F_top_variable:Cal P w K mg CX0 "top_variable" (60+3) ["thing"] (spTop 60)):Cal P w K mg (CXo P w) "bounded" (60+4) ["thing"] (spBounded t.Great 60):=by
  refine D.okX sc_bounded (fun vs H Q E h=>?_) (fun base f cdv A outer s H vs Q E hr h=>?_)
  · obtain ⟨d,v,rfl,_⟩:=h
    rfl
  obtain ⟨d,v,rfl,r,rz,q,qe⟩:=h
  obtain ⟨x,ps,k,rfl,wf,hps⟩:=wf_ps rz.wf
  refine ⟨_,(pss_cons (ps_if (L2.PW.pt (pw_or (pt_val (pe_fn F_is_vast (hr.mono (by omega)) rfl pass0 (pa_cons (pv 0) pa_nil))) (pw_or1 (pt_cmpR op_gt (pe_fn F_top_variable (hr.mono (by omega)) rfl pass0 (pa_cons (pv 0) pa_nil)) (pe_gint M.g_MOST_VARIABLE rfl) (nomark _))))) (pss_one (ps_raise (G:=(fun H'=>E (.ref t.Great) none H')) E_Great M.g_Great (pa_cons pe_str pa_nil) (fun pins σ H s e h' I m q=>xe_made I m q))) pss_nil)
      (pss_one (ps_ret (pv 0)))),?_⟩
  try dsimp only [cxK,cxK2]
  refine let2 ?_
  intro _ _
  refine ⟨_,rfl,_,v,rfl,r,wf_ok wf,rz.kn,fun H1 s1=>⟨_,rfl,?_⟩⟩
  refine ite2 (fun c=>iteT ⟨by decide,qe H1 s1 (by rw [c]; rfl)⟩) (fun c=>?_)
  have c:vastD (.tup (.str x::ps))=false:=Bool.eq_false_iff.mpr c
  have hdp:depth (.tup (.str x::ps))<60:=by
    unfold vastD at c
    simp at c
    omega
  refine ⟨_,rfl,_,v,rfl,r.mono s1,⟨rz.wf,hdp,rz.kn⟩,fun i H2 hi s2=>⟨_,_,rfl,rfl,_,rfl,?_⟩⟩
  refine ite2 (fun c2=>⟨by decide,qe H2 (s1.trans s2) (by rw [← hi,c]; exact c2)⟩) (fun c2=>⟨_,rfl,q H2 (s1.trans s2) (by rw [← hi,c]; exact Bool.eq_false_iff.mpr c2)⟩)
end K55
end
section
namespace L3
open PySem PySem.Spec PyProof.Rows L2 KM
def Dm (K:PySem.W.Frag) (C:Addr) (m qual:Str) (st:Stmt) (ps:List Str):Prop:=∃ f fd,Fun K m qual st f fd∧Meth K C m f∧Binds K fd ps []
def CalM (P:Program) (w:World) (K:PySem.W.Frag) (mg:Str→Option Value) (CX:CXT) (C:Addr) (m:Str) (k:Nat) (ps:List Str) (sp:Sp):Prop :=
  ∃ f fd,(∀ base,FnOk P w K mg base CX k f fd ps sp)∧Meth K C m f∧Binds K fd ps []
section
variable {P:Program} {w:World} {K:PySem.W.Frag} {mg:Str→Option Value} {C:Addr} {m qual:Str} {st:Stmt} {N ps:List Str} {k:Nat} {sp:Sp}
theorem Dm.ok (D:Dm K C m qual st ps) (S:FnScope N ps (defScope st)) (len:∀ vs H Q E,sp vs H Q E→vs.length=ps.length)
    (hbody:∀ (base:Heap) (f:Addr) (cdv:Value) (A:Around) (outer:List Env) (s:Shared) (H:Hp) (vs:List V) (Q:VK) (E:XK),Room k (A.deeper (envOfC qual (defScope st) s.heap.objs.size f cdv))→sp vs H Q E →
      ∃ t,PSs (cxOf CX0 P w K mg base N qual (defScope st) f cdv A outer s H E).nox (defBody st) t∧t { nx:=fun _ H'=>Q .non H',rt:=Q } (start N vs) H):CalM P w K mg CX0 C m (k+1) ps sp:=by
  obtain ⟨f,fd,F,M,b⟩:=D
  exact ⟨f,fd,fun base=>F.ok S len (hbody base f),M,b⟩
theorem Dm.okX (D:Dm K C m qual st ps) (S:FnScope N ps (defScope st)) (len:∀ vs H Q E,sp vs H Q E→vs.length=ps.length)
    (hbody:∀ (base:Heap) (f:Addr) (cdv:Value) (A:Around) (outer:List Env) (s:Shared) (H:Hp) (vs:List V) (Q:VK) (E:XK),Room k (A.deeper (envOfC qual (defScope st) s.heap.objs.size f cdv))→sp vs H Q E →
      ∃ t,PSs (cxOf (CXo P w) P w K mg base N qual (defScope st) f cdv A outer s H E) (defBody st) t∧t { nx:=fun _ H'=>Q .non H',rt:=Q } (start N vs) H):CalM P w K mg (CXo P w) C m (k+1) ps sp:=by
  obtain ⟨f,fd,F,M,b⟩:=D
  refine ⟨f,fd,fun base=>?_,M,b⟩
  obtain ⟨oc,od,kV,doc,pm,an,cdv,ct,osl,rfl,lk,hcd⟩:=F.ex
  exact fn_of lk hcd S len fun A outer s H vs Q E hr hsp=>hbody base f cdv A outer s H vs Q E hr hsp
end
section
variable {X:Cx} {CX:CXT} {C:Addr} {m x:Str} {k:Nat} {ps:List Str} {sp:Sp} {E:XK} {o e:Expr} {es:List Expr} {ta:TE} {t:TA} {p pos apos:Pos} {pl:Sem Bool}
theorem pe_mC (F:CalM X.prog X.w X.K X.mg CX C m k ps sp) (c:Cls X.K C) (hr:Room k X.A) (hx:Passes CX X E) (he:PE X o ta) (ha:PA X (e::es) t) (hst:starEach (e::es) X.env=(false,eval e X.env)::starEach es X.env:=by rfl) (hpl:(backTo pos (starEach es X.env)).any (·.1)=false:=by rfl)
    (ht:eval (.Call (.Attribute o m apos) (e::es) [] pos) X.env=(do
      let ov ← eval o X.env
      standAt apos.atName
      let (f,first) ← holding [ov] (getMethod ov m pl)
      callWith pos f first (backTo pos (starEach (e::es) X.env)) (backToKw pos (keywordEach [] X.env))):=by rfl) (hc:X.calm=true:=by rfl) :
    PE X (.Call (.Attribute o m apos) (e::es) [] pos) (tMeth C m sp [] E ta t):=by
  obtain ⟨f,fd,F,hm,hb⟩:=F
  intro pins s σ H Q I h
  refine PySem.W.methodCall_KW (pl:=pl) (thn (he pins s σ H _ I h) fun u s1 ⟨x,H1,I1,rx,a,dx,fs,ex,ea,l,q⟩=>?_) ht
  subst ex
  obtain rfl:u=Value.ref a:=rx
  refine getmeth_ok I1 ea c hm l ?_
  refine PySem.W.callWith_K (first:=[.ref a]) (h₀:=X.base) I.ok.mod.kin hm.kp (thn (ha pos pins s1 σ H1 _ I1 q) fun us s2 ⟨vs,H2,I2,r,q2⟩=>⟨I2.kIn,?_⟩) hst hpl
  have q2:sp (.ref a::(vs++[])) H2 Q E:=q2
  rw [List.append_nil] at q2
  exact run_cal (us:=.ref a::us) (vs:=.ref a::vs) F hr hb I2 hc (fun e s' hc=>hx pins σ H2 s2 e s' I2 hc) (.cons rfl r) q2
theorem pe_mC0 (F:CalM X.prog X.w X.K X.mg CX C m k ps sp) (c:Cls X.K C) (hr:Room k X.A) (hx:Passes CX X E) (he:PE X o ta)
    (ht:eval (.Call (.Attribute o m apos) [] [] pos) X.env=(do
      let ov ← eval o X.env
      standAt apos.atName
      let (f,first) ← holding [ov] (getMethod ov m pl)
      callWith pos f first (backTo pos (starEach [] X.env)) (backToKw pos (keywordEach [] X.env))):=by rfl) (hc:X.calm=true:=by rfl) :
    PE X (.Call (.Attribute o m apos) [] [] pos) (tMeth C m sp [] E ta tNil):=by
  obtain ⟨f,fd,F,hm,hb⟩:=F
  intro pins s σ H Q I h
  refine PySem.W.methodCall_KW (pl:=pl) (thn (he pins s σ H _ I h) fun u s1 ⟨x,H1,I1,rx,a,dx,fs,ex,ea,l,q⟩=>?_) ht
  subst ex
  obtain rfl:u=Value.ref a:=rx
  refine getmeth_ok I1 ea c hm l ?_
  have q:sp [.ref a] H1 Q E:=q
  exact PySem.W.callWith_K0 (first:=[.ref a]) I1.kIn hm.kp (run_cal (us:=[.ref a]) (vs:=[.ref a]) F hr hb I1 hc (fun e s' hc=>hx pins σ H1 s1 e s' I1 hc) (.cons rfl .nil) q)
end
structure MkC (K:PySem.W.Frag) (C f:Addr):Prop where
  makes:PySem.W.makesIn K C=true
  init:PySem.W.findIn K (.ref C) "__init__" = some (some (.ref f))
  fn:PySem.W.isFn K (.ref f)=true
  kp:PySem.W.keepIn K (.ref C)=true
def CalN (P:Program) (w:World) (K:PySem.W.Frag) (mg:Str→Option Value) (x:Str) (C:Addr) (k:Nat) (ps:List Str) (sp:Sp):Prop :=
  ∃ f fd,(∀ base,FnOk P w K mg base CX0 k f fd ps sp)∧MkC K C f∧mg x=some (.ref C)∧Binds K fd ps []
section
variable {X:Cx} {C:Addr} {x:Str} {k:Nat} {ps:List Str} {sp:Sp} {e:Expr} {es:List Expr} {t:TA} {p pos:Pos}
theorem pe_mkC (F:CalN X.prog X.w X.K X.mg x C k ps sp) (hr:Room (k+1) X.A) (hg:Gl X x) (hx:Passes CX0 X E0) (ha:PA X (e::es) t) (hdb:(x==("__debug__" : Str))=false:=by decide)
    (he:starEach (e::es) X.env=(false,eval e X.env)::starEach es X.env:=by rfl) (hpl:(backTo pos (starEach es X.env)).any (·.1)=false:=by rfl) (hc:X.calm=true:=by rfl) :
    PE X (.Call (.Name x p) (e::es) [] pos) (tMake C sp [] E0 t):=by
  obtain ⟨f,fd,F,M,hm,hb⟩:=F
  intro pins s0 σ H0 Q I0 h
  refine wpAny_Call_Name_kw (ld_glob I0 hg hm ?_ hdb)
  refine PySem.W.callWith_K (h₀:=X.base) I0.ok.mod.kin M.kp (thn (ha pos pins s0 σ H0 _ I0 h) fun us s ⟨vs,H,I,r,q⟩=>⟨I.kIn,?_⟩) he hpl
  have hq:=q (s.heap.objs.size+1) s.heap.objs.size (I.hok.fresh (Nat.le_succ _)) (I.hok.fresh (Nat.le_refl _)) (Nat.ne_of_lt (Nat.lt_succ_self _))
  rw [List.append_nil] at hq
  have I2:=Inv.made (C:=C) I
  have r2:Vals (V.ref (s.heap.objs.size+1)::vs) (Value.ref (s.heap.objs.size+1)::us):=.cons rfl r
  have hl:(Value.ref (s.heap.objs.size+1)::us).length=ps.length:=by
    rw [← r2.length]
    exact (F X.base).len _ _ _ _ hq
  have bt:=hb _ (Value.ref (s.heap.objs.size+1)::us) I2.kIn (by rw [List.append_nil]; exact hl)
  rw [List.append_nil] at bt
  refine wpAny_call (make_map (f:=f) I.kIn M.makes M.init (beq_iff_eq.mp M.fn) (codeAny_mono ((F _).run _ X.stack _ _ ⟨Value.ref (s.heap.objs.size+1)::us,[]⟩ (Value.ref (s.heap.objs.size+1)::us) _ _ E0 (hr.make C us [])
    ((env1 I2 hc).make C us []) bt r2 hq) fun r s' hq'=>?_))
  cases r with
  | error e=>exact hx pins σ _ _ e s' I2 hq'
  | ok fl =>
    cases fl with
    | ret u =>
      obtain ⟨v,H',I3,rv,ev,q3⟩:=I2.after hq'
      subst ev
      exact ⟨rv,⟨V.ref (s.heap.objs.size+1),H',I3,rfl,q3⟩⟩
    | next=>exact False.elim hq'
    | brk=>exact False.elim hq'
    | cont=>exact False.elim hq'
end
end L3
end
section
set_option maxHeartbeats 2000000
namespace K55
open PySem L2 L3 KM PyProof.Rows
seal L2.PE L2.PS L2.PSs L2.PT L2.PW L2.PA L2.PG L2.PGs L2.PI L2.PC L2.PO L2.PPs L2.PK L3.PIf L3.PEp L3.PSp L3.PSsp L3.PSg
variable {P:Program} {w:World} {K:PySem.W.Frag} {mg:Str→Option Value} {base:Heap} {t:Adr}
structure FormK (K:PySem.W.Frag) (C:Addr):Prop where
  cls:Cls K C
  word:NoAttr K C "word"
  name:NoAttr K C "name"
  due:NoAttr K C "due"
  parts:NoAttr K C "parts"
def fmF (w n d:V) (p:Addr):List (Str×V):=[("word",w),("name",n),("due",d),("parts",.ref p)]
def spInit (C:Addr):Sp:=fun vs H Q _=>∃ (x dx:Addr) (w n d:V),vs=[.ref x,w,n,d]∧H x=some (.ins C dx [])∧∀ (p:Addr) (H':Hp),H p=none→p≠x→H' p=some (.lst [])→H' x=some (.ins C dx (fmF w n d p))→(∀ b o,b≠x→H b=some o→H' b=some o)→Q .non H'
theorem sc_Form_init:FnScope ["self", "word", "name", "due"] ["self", "word", "name", "due"] (defScope s_Form_init):=⟨rfl,rfl,rfl,by decide +kernel,rfl,by decide +kernel,by decide +kernel⟩
theorem c_Form_init (D:Dm K t.Form "__init__" "Form.__init__" s_Form_init ["self", "word", "name", "due"]) (M:Mg mg t) (K_Form:FormK K t.Form):CalM P w K mg CX0 t.Form "__init__" (1) ["self", "word", "name", "due"] (spInit t.Form):=by
  refine D.ok sc_Form_init (fun vs H Q E h=>?_) (fun base f cdv A outer s H vs Q E hr h=>?_)
  · obtain ⟨x,dx,w,n,d,rfl,_⟩:=h
    rfl
  obtain ⟨x,dx,w,n,d,rfl,hx,q⟩:=h
  refine ⟨_,(pss_cons (ps_fld (pv 0) (pv 1) rfl)
      (pss_cons (ps_fld (pv 0) (pv 2) rfl)
      (pss_cons (ps_fld (pv 0) (pv 3) rfl)
      (pss_one (ps_fld (pv 0) (pe_lst pa_nil) rfl))))),?_⟩
  try dsimp only [cxK,cxK2]
  refine let4 ?_
  intro _ _ _ _
  refine ⟨_,rfl,_,rfl,x,t.Form,dx,[],rfl,hx,K_Form.cls,K_Form.word,(by decide),?_⟩
  refine ⟨_,rfl,_,rfl,x,t.Form,dx,_,rfl,upd_same,K_Form.cls,K_Form.name,(by show 1<1000; decide),?_⟩
  refine ⟨_,rfl,_,rfl,x,t.Form,dx,_,rfl,upd_same,K_Form.cls,K_Form.due,(by show 2<1000; decide),?_⟩
  refine ⟨(by show 0≤sizeLine; decide),fun p hp=>?_⟩
  rw [upd_upd,upd_upd] at hp ⊢
  have npx:p≠x:=fun z=>by rw [z,upd_same] at hp; cases hp
  rw [upd_ne npx] at hp
  refine ⟨_,rfl,x,t.Form,dx,_,rfl,(by rw [upd_ne npx.symm]; exact upd_same),K_Form.cls,K_Form.parts,(by show 3<1000; decide),?_⟩
  refine q p _ hp npx (by rw [upd_ne npx]; exact upd_same) upd_same fun b o hb h=>?_
  have nbp:b≠p:=ne_of_none h hp
  rw [upd_ne hb,upd_ne nbp,upd_ne hb]
  exact h
structure Fm (K:PySem.W.Frag) (C:Addr) (H:Hp) (x:Addr) (w n:V) (ds:List V) (p:Addr) (ps:List V):Prop where
  obj:∃ (dx d:Addr),H x=some (.ins C dx (fmF w n (.ref d) p))∧SqT K H d ds
  parts:H p=some (.lst ps)
theorem Fm.mono {C x p:Addr} {H H':Hp} {w n:V} {ds ps:List V} (F:Fm K C H x w n ds p ps) (s:Same H H'):Fm K C H' x w n ds p ps:=by
  obtain ⟨dx,d,hx,hd⟩:=F.obj
  refine ⟨⟨dx,d,s _ _ hx,?_⟩,s _ _ F.parts⟩
  rcases hd with h | h
  · exact .inl (h.imp (fun h=>s _ _ h) fun ⟨o,h⟩=>⟨o,s _ _ h⟩)
  · exact .inr h
def spFull (K:PySem.W.Frag) (C:Addr):Sp:=fun vs H Q _=>∃ (x p:Addr) (w n:V) (ds ps:List V),vs=[.ref x]∧Fm K C H x w n ds p ps∧Q (.bl (decide (ps.length=ds.length))) H
theorem sc_Form_is_full:FnScope ["self"] ["self"] (defScope s_Form_is_full):=⟨rfl,rfl,rfl,by decide +kernel,rfl,by decide +kernel,by decide +kernel⟩
theorem c_Form_is_full (D:Dm K t.Form "is_full" "Form.is_full" s_Form_is_full ["self"]) (M:Mg mg t) (K_Form:FormK K t.Form):CalM P w K mg CX0 t.Form "is_full" (1) ["self"] (spFull K t.Form):=by
  refine D.ok sc_Form_is_full (fun vs H Q E h=>?_) (fun base f cdv A outer s H vs Q E hr h=>?_)
  · obtain ⟨x,p,w,n,ds,ps,rfl,_⟩:=h
    rfl
  obtain ⟨x,p,w,n,ds,ps,rfl,F,q⟩:=h
  obtain ⟨dx,d,hx,hd⟩:=F.obj
  refine ⟨_,(pss_one (ps_ret (pe_cmpR op_eq (pe_callB call_len_seq rfl M.n_len bt_len (pa_cons (pe_fld (pv 0) rfl) pa_nil)) (pe_callB call_len_seq rfl M.n_len bt_len (pa_cons (pe_fld (pv 0) rfl) pa_nil)) (nomark _)))),?_⟩
  try dsimp only [cxK,cxK2]
  refine ⟨_,rfl,x,t.Form,dx,_,_,rfl,hx,K_Form.cls,K_Form.parts,rfl,p,_,rfl,.inl (SqL.of F.parts),_,rfl,x,t.Form,dx,_,_,rfl,hx,K_Form.cls,K_Form.due,rfl,d,_,rfl,.inr hd,rfl,?_⟩
  have e:decide (V.int ((ps.length:Nat):Int)=V.int ((ds.length:Nat):Int))=decide (ps.length=ds.length):=by
    by_cases h:ps.length=ds.length
    · rw [h]; simp
    · rw [decide_eq_false h]
      exact decide_eq_false fun z=>h (by injection z with z; omega)
  rw [e]
  exact q
def spTake (K:PySem.W.Frag) (C N:Addr):Sp:=fun vs H Q E=>∃ (x p a:Addr) (w n:V) (ds ps us:List V) (y:Str),vs=[.ref x,.ref a]∧Fm K C H x w n ds p ps∧H a=some (.tup (.str y::us))∧ps.length<1000 ∧
  (ps.length=ds.length→E (.ref N) none H)∧(∀ dd:Str,ds[ps.length]?=some (.str dd)→kindW y≠decide (dd = "kind")→E (.ref N) none H)∧(ps.length≠ds.length→∃ dd:Str,ds[ps.length]?=some (.str dd)∧(kindW y=decide (dd = "kind")→∀ H',H' p=some (.lst (ps++[.ref a]))→SameX p H H'→Q .non H'))
theorem sc_Form_take:FnScope ["self", "thing"] ["self", "thing"] (defScope s_Form_take):=⟨rfl,rfl,rfl,by decide +kernel,rfl,by decide +kernel,by decide +kernel⟩
theorem c_Form_take (D:Dm K t.Form "take" "Form.take" s_Form_take ["self", "thing"]) (M:Mg mg t) (K_Form:FormK K t.Form) (E_NoText:ExcK K t.NoText) (T:SqK K t.KIND_WORDS [.str "nat",.str "none",.str "all",.str "some",.str "same"]) (F_Form_is_full:CalM P w K mg CX0 t.Form "is_full" (1) ["self"] (spFull K t.Form)):CalM P w K mg (CXo P w) t.Form "take" (2) ["self", "thing"] (spTake K t.Form t.NoText):=by
  refine D.okX sc_Form_take (fun vs H Q E h=>?_) (fun base f cdv A outer s H vs Q E hr h=>?_)
  · obtain ⟨x,p,a,w,n,ds,ps,us,y,rfl,_⟩:=h
    rfl
  obtain ⟨x,p,a,w,n,ds,ps,us,y,rfl,F,ha,hlen,e1,e2,q⟩:=h
  obtain ⟨dx,d,hx,hd⟩:=id F.obj
  refine ⟨_,(pss_cons (ps_if (pt_val (pe_mC0 F_Form_is_full K_Form.cls (hr.mono (by omega)) pass0 (pv 0))) (pss_one (ps_raise (G:=(fun H'=>E (.ref t.NoText) none H')) E_NoText M.g_NoText (pa_cons pe_str pa_nil) (fun pins σ H s e h' I m q=>xe_made I m q))) pss_nil)
      (pss_cons (ps_if (pt_cmpR op_ne (pe_cmpR op_in_seq (pe_ix ix_tup (pv 1) pe_int (fun _ _=>rfl)) (pe_gref M.g_KIND_WORDS rfl) rfl) (pe_cmpR op_eq (pe_ix ix_tup (pe_fld (pv 0) rfl) (pe_callB call_len_seq rfl M.n_len bt_len (pa_cons (pe_fld (pv 0) rfl) pa_nil)) (fun _ _=>rfl)) pe_str (nomark _)) (nomark _)) (pss_one (ps_raise (G:=(fun H'=>E (.ref t.NoText) none H')) E_NoText M.g_NoText (pa_cons pe_str pa_nil) (fun pins σ H s e h' I m q=>xe_made I m q))) pss_nil)
      (pss_one (ps_expr (pe_bm PySem.F.plainAttrs_list PySem.F.slot_list_append PySem.F.type_list_append mt_append (pe_fld (pv 0) rfl) (pa_cons (pv 1) pa_nil)))))),?_⟩
  try dsimp only [cxK,cxK2]
  refine let3 ?_
  intro _ _ _
  refine ⟨_,rfl,x,dx,_,rfl,hx,rfl,x,p,w,n,ds,ps,rfl,F,_,rfl,ite2 (fun c=>?_) (fun c=>?_)⟩
  · exact ⟨by decide,e1 (of_decide_eq_true c)⟩
  have c:ps.length≠ds.length:=fun z=>c (decide_eq_true z)
  obtain ⟨dd,hdd,q⟩:=q c
  have e2:=e2 dd hdd
  have ek:decide (V.str dd=V.str "kind")=decide (dd = "kind"):=by
    by_cases h:dd = "kind"
    · rw [h]; simp
    · rw [decide_eq_false h]
      exact decide_eq_false fun z=>h (by injection z)
  refine ⟨_,rfl,a,_,_,_,rfl,rfl,SqT.of ha,atI_nat (j:=0) rfl,t.KIND_WORDS,_,rfl,.inr (.inr T),rfl,rfl,_,rfl,x,t.Form,dx,_,_,rfl,hx,K_Form.cls,K_Form.due,rfl,_,rfl,x,t.Form,dx,_,_,rfl,hx,K_Form.cls,K_Form.parts,rfl,p,_,rfl,.inl (SqL.of F.parts),d,_,_,_,rfl,rfl,hd,atI_nat hdd,rfl,rfl,_,rfl,?_⟩
  rw [ek]
  show if (!decide (V.bl (kindW y)=V.bl (decide (dd = "kind"))))=true then _ else _
  refine ite2 (fun c2=>?_) (fun c2=>?_)
  · refine ⟨by decide,e2 fun z=>?_⟩
    rw [z] at c2
    simp at c2
  · have c2:kindW y=decide (dd = "kind"):=by
      have:decide (V.bl (kindW y)=V.bl (decide (dd = "kind")))=true:=by simpa using c2
      have:=of_decide_eq_true this
      injection this
    refine ⟨_,rfl,x,t.Form,dx,_,_,rfl,hx,K_Form.cls,K_Form.parts,rfl,.inl ⟨rfl,_,SqL.of F.parts⟩,_,rfl,p,_,_,rfl,rfl,F.parts,(by rw [sizeLine_eq]; omega),?_⟩
    exact q c2 _ upd_same (SameX.upd _)
end K55
end
section
set_option maxHeartbeats 2000000
namespace K55
open PySem L2 L3 KM PyProof.Rows
seal L2.PE L2.PS L2.PSs L2.PT L2.PW L2.PA L2.PG L2.PGs L2.PI L2.PC L2.PO L2.PPs L2.PK L3.PIf
variable {P:Program} {w:World} {K:PySem.W.Frag} {mg:Str→Option Value} {base:Heap} {t:Adr}
def abc:Str := "abcdefghijklmnopqrstuvwxyz"
def letB (c:Nat):Bool:=!(Builtin.Str.occurrences abc ⟨#[c]⟩ 0 abc.length 1).isEmpty
def nameD:D→Bool
  | .str x=>decide ((1:Int)≤x.length) && (decide ((x.length:Int)≤12) && ((rows18.lookup x).isNone && x.cps.toList.all letB))
  | _=>false
def spIsName:Sp:=fun vs H Q _=>∃ d v,vs=[v]∧Rep H d v∧∀ H',Same H H'→Q (.bl (nameD d)) H'
theorem range_letB (x:Str):((List.range x.cps.size).map fun i=>V.bl (letB ((x.cps[i]?).getD 0)))=(x.cps.toList.map letB).map V.bl:=by
  apply List.ext_getElem?
  intro i
  by_cases h:i<x.cps.size
  · simp [h]
  · simp [h]
theorem sc_is_name:FnScope ["value"] ["value"] (defScope s_is_name):=⟨rfl,rfl,rfl,by decide +kernel,rfl,by decide +kernel,by decide +kernel⟩
theorem c_is_name (D:Df K mg "is_name" s_is_name ["value"]) (M:Mg mg t) {as:List Addr} (T:KD K t.KIDS_DUE rows18 as):Cal P w K mg CX0 "is_name" (1) ["value"] spIsName:=by
  refine D.ok sc_is_name (fun vs H Q E h=>?_) (fun base f cdv A outer s H vs Q E hr h=>?_)
  · obtain ⟨d,v,rfl,_⟩:=h
    rfl
  obtain ⟨d,v,rfl,r,q⟩:=h
  refine ⟨_,(pss_cons (ps_if (L2.PW.pt (pw_or (pt_not (pt_val (pe_callB call_isinst rfl M.n_isinstance bt_isinstance (pa_cons (pv 0) (pa_cons (pe_ty M.n_str bt_str rfl) pa_nil))))) (pw_or1 (pt_not (pt_chain op_le op_le pe_int (pe_callB call_len_str rfl M.n_len bt_len (pa_cons (pv 0) pa_nil)) (pe_gint M.g_MOST_LETTERS rfl)))))) (pss_one (ps_ret pe_bl)) pss_nil)
      (pss_one (ps_ret (pe_and (pe_cmpR op_notin_tab (pv 0) (pe_gref M.g_KIDS_DUE rfl) rfl) (pe_one (pe_callB (call_all_bls rfl) rfl M.n_all bt_all (pa_cons (pe_comp (N':=["sign"]) (own:=1) (fr:=[]) rfl (blk_of (N:=["value"]) (sc:=defScope s_is_name) rfl rfl rfl (by decide +kernel)) (pi_str (pv 0)) (own_name (by decide)) (fun _ _ _=>(pg_name (i:=0) (show List.Nodup (["sign"]:List Str) by decide +kernel) rfl (Or.inl rfl))) (fun _ _ _=>pif_nil) (fun _ _ _=>(pe_cmpR op_in_str (pv 0) (pe_gstr M.g_LETTERS rfl) rfl))) pa_nil))))))),?_⟩
  try dsimp only [cxK,cxK2]
  refine let2 ?_
  intro _ _
  refine ⟨_,rfl,_,_,_,_,rfl,r.ty,kit_str _ d,_,rfl,?_⟩
  refine ite2 (fun c=>iteT ?_) (fun c=>?_)
  · have e:nameD d=false:=by
      cases d <;> first | rfl | (simp [isStrD] at c)
    rw [e] at q
    exact q H (Same.refl H)
  · obtain ⟨x,rfl⟩:∃ x,d=.str x:=by
      cases d <;> first | exact ⟨_,rfl⟩ | (simp [isStrD] at c)
    obtain ⟨rfl,hx⟩:=r
    have e0:nameD (.str x)=(decide ((1:Int)≤x.length) && (decide ((x.length:Int)≤12) && ((rows18.lookup x).isNone && x.cps.toList.all letB))):=rfl
    rw [e0] at q
    have hsz:x.length≤sizeLine:=Nat.le_trans hx (by decide)
    refine ⟨_,rfl,x,rfl,hsz,_,_,rfl,rfl,_,rfl,?_⟩
    refine ite2 (fun c1=>?_) (fun c1=>⟨_,rfl,iteT ?_⟩)
    · refine ⟨_,_,rfl,rfl,_,rfl,?_⟩
      refine ite2 (fun c2=>?_) (fun c2=>?_)
      · have c2:decide ((x.length:Int)≤12)=false:=by simpa using c2
        rw [c2,Bool.false_and,Bool.and_false] at q
        exact q H (Same.refl H)
      · have c2:decide ((x.length:Int)≤12)=true:=by simpa using c2
        rw [c1,c2,Bool.true_and,Bool.true_and] at q
        refine ⟨_,rfl,x,_,_,rfl,rfl,T.tab,_,rfl,?_⟩
        rw [T.inT]
        refine ite2 (fun c3=>?_) (fun c3=>?_)
        · have c3:(rows18.lookup x).isNone=true:=by
            cases e:rows18.lookup x <;> simp [e] at c3 ⊢
          rw [c3,Bool.true_and] at q
          refine ⟨_,rfl,x,rfl,fun p hp=>comp_vals x.cps.size (fun i=>V.bl (letB ((x.cps[i]?).getD 0))) hp hsz (fun i H2 hi s2=>⟨hi,?_⟩) fun H2 s2 h2=>⟨Nat.le_refl _,p,x.cps.toList.map letB,rfl,SqL.of (by rw [← range_letB]; exact h2),?_⟩⟩
          · rintro x' H3 ⟨rfl,c,hc,rfl⟩ R hR
            refine ⟨_,rfl,_,_,rfl,rfl,?_⟩
            have:=hR H3 (Same.refl _)
            rw [hc] at this
            exact this
          · have e:(x.cps.toList.map letB).all id=x.cps.toList.all letB:=by rw [List.all_map]; rfl
            rw [e]
            exact q H2 s2
        · have c3:(rows18.lookup x).isNone=false:=by
            cases e:rows18.lookup x <;> simp [e] at c3 ⊢
          rw [c3,Bool.false_and] at q
          exact q H (Same.refl H)
    · have c1:decide ((1:Int)≤x.length)=false:=Bool.eq_false_iff.mpr c1
      rw [c1,Bool.false_and] at q
      exact q H (Same.refl H)
end K55
end
section
set_option maxHeartbeats 4000000
namespace K55
open PySem L2 L3 KM PyProof.Rows
seal L2.PE L2.PS L2.PSs L2.PT L2.PW L2.PA L2.PG L2.PGs L2.PI L2.PC L2.PO L2.PPs L2.PK L3.PIf L3.PEp L3.PSp L3.PSsp L3.PSg
variable {P:Program} {w:World} {K:PySem.W.Frag} {mg:Str→Option Value} {base:Heap} {t:Adr}
def cntD:Nat→D
  | 0=>.tup [.str "zero"]
  | n+1=>.tup [.str "next",cntD n]
theorem cnt_wf:∀ n:Nat,wfG isStrD false (cntD n)=true
  | 0=>wf_zero
  | n+1=>wf_next (cnt_wf n)
theorem cnt_depth:∀ n:Nat,depth (cntD n)=n+1
  | 0=>by simp [cntD,depth,depthL]
  | n+1=>by
    have:=cnt_depth n
    simp only [cntD,depth,depthL]
    omega
def spCount:Sp:=fun vs H Q _=>∃ n:Nat,vs=[.int (n:Nat)]∧n≤1000∧∀ (v:V) (H':Hp),Same H H'→Rep H' (cntD n) v→Q v H'
theorem sc_count_of:FnScope ["number", "thing", "count"] ["number"] (defScope s_count_of):=⟨rfl,rfl,rfl,by decide +kernel,rfl,by decide +kernel,by decide +kernel⟩
theorem c_count_of (D:Df K mg "count_of" s_count_of ["number"]) (M:Mg mg t):Cal P w K mg CX0 "count_of" (1) ["number"] spCount:=by
  refine D.ok sc_count_of (fun vs H Q E h=>?_) (fun base f cdv A outer s H vs Q E hr h=>?_)
  · obtain ⟨n,rfl,_⟩:=h
    rfl
  obtain ⟨n,rfl,hn,q⟩:=h
  refine ⟨_,(pss_cons (ps_set (i:=1) sc_count_of.nd rfl (by first | exact Or.inl rfl | exact Or.inr rfl) (pe_tup (pa_cons pe_str pa_nil)))
      (pss_cons (ps_for PassesOwn.never rfl (pi_range1 rfl M.n_range (pa_cons (pv 0) pa_nil)) (pg_name (i:=2) sc_count_of.nd rfl (by first | exact Or.inl rfl | exact Or.inr rfl)) (pss_one (ps_set (i:=1) sc_count_of.nd rfl (by first | exact Or.inl rfl | exact Or.inr rfl) (pe_tup (pa_cons pe_str (pa_cons (pv 1) pa_nil))))))
      (pss_one (ps_ret (pv 1))))),?_⟩
  try dsimp only [cxK,cxK2]
  refine let3 ?_
  intro _ _ _
  refine ⟨(by show 1≤sizeLine; decide),fun p0 hp0=>?_⟩
  refine ⟨_,rfl,_,rfl,(by show -(2 ^ 62)≤((n:Nat):Int); omega),(by show ((n:Nat):Int)<2 ^ 62; omega),?_⟩
  have t0:=same_new hp0 (.tup [V.str "zero"])
  have r0':Rep (upd H p0 (.tup [V.str "zero"])) (cntD 0) (.ref p0):=⟨p0,_,rfl,upd_same,_,_,rfl,⟨rfl,by decide +kernel⟩,rfl⟩
  generalize upd H p0 (.tup [V.str "zero"])=H0 at t0 r0' ⊢
  let Ifr:Nat→L2.St→Hp→Prop:=(fun i σ' H'=>∃ (v:V) (cv:Option V),σ'=[some (.int (n:Nat)),some v,cv]∧Rep H' (cntD i) v∧Same H H')
  refine for_by n Ifr ?_ ?_ ?_
  · exact ⟨_,none,rfl,r0',t0⟩
  · rintro i σ' H1 hi ⟨v,cv,rfl,r1,s1⟩
    refine ⟨(by show i<((n:Nat):Int).toNat; omega),?_⟩
    rintro x' H2 ⟨rfl,rfl⟩
    refine ⟨_,rfl,(by show 2≤sizeLine; decide),fun p2 hp2=>?_⟩
    have t2:=same_new hp2 (.tup [V.str "next",v])
    exact ⟨.ref p2,_,rfl,⟨p2,_,rfl,upd_same,⟨_,_,rfl,⟨rfl,by decide +kernel⟩,⟨_,_,rfl,r1.mono t2,rfl⟩⟩⟩,s1.trans t2⟩
  · rintro σ' H1 ⟨v,cv,rfl,r1,s1⟩
    exact ⟨(by show ((n:Nat):Int).toNat≤n; omega),_,rfl,q v H1 s1 r1⟩
def dgt (c:Nat):Bool:=decide (48≤c) && decide (c≤57)
def figB (z:Str):Bool:=decide (z.length≤2) && (z.cps.toList.all dgt && (match PySem.intText? z with | some n=>decide (Str.ofString (toString n)=z) && decide (n≤39) | none=>false))
theorem dgt_in (c:Nat):(!(Builtin.Str.occurrences (Str.ofString "0123456789") ⟨#[c]⟩ 0 (Str.ofString "0123456789").length 1).isEmpty)=dgt c:=by
  rw [StrLaws.found_one,show (Str.ofString "0123456789").cps.toList=[48,49,50,51,52,53,54,55,56,57] by decide +kernel]
  unfold dgt
  rw [Bool.eq_iff_iff]
  simp
  omega
theorem one_ok:((List.range 10).all fun a=>match PySem.intText? ⟨#[48+a]⟩ with | some n=>decide (0≤n) && decide (n<1000) | none=>false)=true:=by decide +kernel
theorem two_ok:((List.range 10).all fun a=>(List.range 10).all fun b=>match PySem.intText? ⟨#[48+a,48+b]⟩ with | some n=>decide (0≤n) && decide (n<1000) | none=>false)=true:=by decide +kernel
theorem fig_val {z:Str} (h1:1≤z.length) (h2:z.length≤2) (hd:z.cps.toList.all dgt=true):∃ n:Int,PySem.intText? z=some n∧0≤n∧n<1000:=by
  have hl:=str_len z
  have hz:z=tx z.cps.toList:=(tx_of z).symm
  generalize z.cps.toList=l at hl hd hz
  have dg:∀ c,dgt c=true→∃ a,a<10∧c=48+a:=fun c h=>by
    unfold dgt at h
    simp at h
    exact ⟨c-48,by omega,by omega⟩
  match l,hl,hd with
  | [c],hl,hd =>
    obtain ⟨a,ha,rfl⟩:=dg c (by simpa using hd)
    have:=List.all_eq_true.mp one_ok a (List.mem_range.mpr ha)
    rw [hz]
    show ∃ n:Int,PySem.intText? ⟨#[48+a]⟩=some n∧_
    cases e:PySem.intText? ⟨#[48+a]⟩ with
    | none=>rw [e] at this; cases this
    | some n=>rw [e] at this; simp at this; exact ⟨n,rfl,this.1,this.2⟩
  | [c,d],hl,hd =>
    have hd:dgt c=true∧dgt d=true:=by simpa using hd
    obtain ⟨a,ha,rfl⟩:=dg c hd.1
    obtain ⟨b,hb,rfl⟩:=dg d hd.2
    have:=List.all_eq_true.mp (List.all_eq_true.mp two_ok a (List.mem_range.mpr ha)) b (List.mem_range.mpr hb)
    rw [hz]
    show ∃ n:Int,PySem.intText? ⟨#[48+a,48+b]⟩=some n∧_
    cases e:PySem.intText? ⟨#[48+a,48+b]⟩ with
    | none=>rw [e] at this; cases this
    | some n=>rw [e] at this; simp at this; exact ⟨n,rfl,this.1,this.2⟩
  | [],hl,_=>simp at hl; omega
  | _::_::_::_,hl,_=>simp at hl; omega
theorem range_dgt (x:Str):((List.range x.cps.size).map fun i=>V.bl (dgt ((x.cps[i]?).getD 0)))=(x.cps.toList.map dgt).map V.bl:=by
  apply List.ext_getElem?
  intro i
  by_cases h:i<x.cps.size
  · simp [h]
  · simp [h]
def spFig:Sp:=fun vs H Q _=>∃ z:Str,vs=[.str z]∧1≤z.length∧z.length≤100000∧∀ H',Same H H'→Q (.bl (figB z)) H'
theorem sc_is_figure:FnScope ["word"] ["word"] (defScope s_is_figure):=⟨rfl,rfl,rfl,by decide +kernel,rfl,by decide +kernel,by decide +kernel⟩
theorem c_is_figure (D:Df K mg "is_figure" s_is_figure ["word"]) (M:Mg mg t):Cal P w K mg CX0 "is_figure" (1) ["word"] spFig:=by
  refine D.ok sc_is_figure (fun vs H Q E h=>?_) (fun base f cdv A outer s H vs Q E hr h=>?_)
  · obtain ⟨z,rfl,_⟩:=h
    rfl
  obtain ⟨z,rfl,h1,h2,q⟩:=h
  have hsz:z.length≤sizeLine:=by rw [sizeLine_eq]; omega
  refine ⟨_,(pss_cons (ps_if (L2.PW.pt (pw_or (pt_cmpR op_gt (pe_callB call_len_str rfl M.n_len bt_len (pa_cons (pv 0) pa_nil)) pe_int (nomark _)) (pw_or1 (pt_not (pt_val (pe_callB (call_all_bls rfl) rfl M.n_all bt_all (pa_cons (pe_comp (N':=["sign"]) (own:=1) (fr:=[]) rfl (blk_of (N:=["word"]) (sc:=defScope s_is_figure) rfl rfl rfl (by decide +kernel)) (pi_str (pv 0)) (own_name (by decide)) (fun _ _ _=>(pg_name (i:=0) (show List.Nodup (["sign"]:List Str) by decide +kernel) rfl (Or.inl rfl))) (fun _ _ _=>pif_nil) (fun _ _ _=>(pe_cmpR op_in_str (pv 0) (pe_gstr M.g_FIGURES rfl) rfl))) pa_nil))))))) (pss_one (ps_ret pe_bl)) pss_nil)
      (pss_one (ps_ret (pe_and (pe_cmpR op_eq (pe_callTy call_strI rfl M.n_str bt_str (pa_cons (pe_callTy call_intS rfl M.n_int bt_int (pa_cons (pv 0) pa_nil)) pa_nil)) (pv 0) (nomark _)) (pe_one (pe_cmpR op_le (pe_callTy call_intS rfl M.n_int bt_int (pa_cons (pv 0) pa_nil)) (pe_gint M.g_MOST_FIGURE rfl) (nomark _))))))),?_⟩
  try dsimp only [cxK,cxK2]
  refine let2 ?_
  intro _ _
  refine ⟨_,rfl,z,rfl,hsz,_,_,rfl,rfl,_,rfl,ite2 (fun c=>iteT ?_) (fun c=>?_)⟩
  · have c:(2:Int)<((z.length:Nat):Int):=of_decide_eq_true c
    have e:figB z=false:=by
      unfold figB
      rw [decide_eq_false (by omega),Bool.false_and]
    have:=q H (Same.refl H)
    rw [e] at this
    exact this
  have c:¬ (2:Int)<((z.length:Nat):Int):=of_decide_eq_false (Bool.eq_false_iff.mpr c)
  have e0:figB z=(z.cps.toList.all dgt && (match PySem.intText? z with | some n=>decide (Str.ofString (toString n)=z) && decide (n≤39) | none=>false)):=by
    unfold figB
    rw [decide_eq_true (by omega),Bool.true_and]
  rw [e0] at q
  refine ⟨_,rfl,z,rfl,fun p hp=>comp_vals z.cps.size (fun i=>V.bl (dgt ((z.cps[i]?).getD 0))) hp hsz (fun i H2 hi s2=>⟨hi,?_⟩) fun H2 s2 h2=>⟨Nat.le_refl _,p,z.cps.toList.map dgt,rfl,SqL.of (by rw [← range_dgt]; exact h2),?_⟩⟩
  · rintro x' H3 ⟨rfl,c,hc,rfl⟩ R hR
    refine ⟨_,rfl,_,_,rfl,rfl,?_⟩
    have:=hR H3 (Same.refl _)
    rw [hc] at this
    rw [dgt_in]
    exact this
  · have e:(z.cps.toList.map dgt).all id=z.cps.toList.all dgt:=by rw [List.all_map]; rfl
    rw [e]
    refine ⟨_,rfl,?_⟩
    cases hd:z.cps.toList.all dgt with
    | false =>
      have:=q H2 s2
      rw [hd,Bool.false_and] at this
      exact iteT this
    | true =>
      obtain ⟨n,hn,n0,n1⟩:=fig_val h1 (by omega) hd
      have:=q H2 s2
      rw [hd,Bool.true_and,hn] at this
      have this:Q (V.bl (decide (Str.ofString (toString n)=z) && decide (n≤39))) H2:=this
      have lg:n.natAbs.log2<1920:=by
        have:n.natAbs<2 ^ 10:=by omega
        have:=Nat.log2_lt (n:=n.natAbs) (k:=10)
        by_cases h0:n.natAbs=0
        · rw [h0]; decide
        · have:=(Nat.log2_lt h0).mpr ‹n.natAbs<2 ^ 10›
          omega
      refine iteF ⟨_,rfl,z,n,rfl,hn,(by omega),n,rfl,lg,_,rfl,rfl,_,rfl,?_⟩
      have e3:decide (V.str (Str.ofString (toString n))=V.str z)=decide (Str.ofString (toString n)=z):=by
        by_cases h:Str.ofString (toString n)=z
        · rw [h]; simp
        · rw [decide_eq_false h]
          exact decide_eq_false fun y=>h (by injection y)
      rw [e3]
      cases h3:decide (Str.ofString (toString n)=z) with
      | false =>
        rw [h3,Bool.false_and] at this
        exact iteF this
      | true =>
        rw [h3,Bool.true_and] at this
        exact iteT ⟨_,rfl,z,n,rfl,hn,(by omega),_,_,rfl,rfl,this⟩
theorem fig_true {z:Str} (h1:1≤z.length) (h:figB z=true):∃ n:Nat,n≤39∧PySem.intText? z=some ((n:Nat):Int)∧z=Str.ofString (toString ((n:Nat):Int))∧z.length≤2:=by
  unfold figB at h
  rw [Bool.and_eq_true,Bool.and_eq_true] at h
  obtain ⟨n,hn,n0,n1⟩:=fig_val h1 (of_decide_eq_true h.1) h.2.1
  have h3:=h.2.2
  rw [hn] at h3
  have h3:(decide (Str.ofString (toString n)=z) && decide (n≤39))=true:=h3
  rw [Bool.and_eq_true] at h3
  obtain ⟨k,rfl⟩:∃ k:Nat,n=(k:Nat):=⟨n.toNat,by omega⟩
  exact ⟨k,by have:=of_decide_eq_true h3.2; omega,hn,(of_decide_eq_true h3.1).symm,of_decide_eq_true h.1⟩
theorem sc_leaf_of:FnScope ["word", "forms", "names"] ["word", "forms", "names"] (defScope s_leaf_of):=⟨rfl,rfl,rfl,by decide +kernel,rfl,by decide +kernel,by decide +kernel⟩
end K55
end
section
namespace L3
open PySem PySem.Spec PyProof.Rows L2 KM
end L3
end
section
namespace L3
open PySem PySem.Spec PyProof.Rows L2
section
variable {prog:Program} {w:World} {A:Around} {E:Value→Shared→Prop} {s:Shared}
theorem next_rev_end {it l:Addr} {Q:Option Value→Shared→Prop} (hb:HB s.heap A) (hit:s.heap.IsRevIter it l (-1)) (hQ:∀ h',Heap.ExtBut it s.heap h'→Q none { s with heap:=h' }):wpAny (model prog w) A (pyNext (.ref it)) Q E s:=by
  obtain ⟨o,ho,hc,hd⟩:=id hit
  unfold pyNext
  refine wpAny_bind (wpAny_attempt (wpAny_callSpecial?_slot (name:=Str.ofString "__next__") hit.typeIs F.slot_lri_next (wpAny_call_entry F.slot_lri_next hit.typeIs F.entry_lri_next ?_ (F.args_lri_next_1 _))))
  unfold Builtin.«list_reverseiterator.__next__»
  refine wpAny_bind (wpAny_of_eq (a:=(Value.ref it,[])) rfl ?_)
  dsimp only
  refine wpAny_bind (wpAny_field ho hd (x:=rawInt (-1)) rfl ?_)
  show wpAny _ _ (if (-1:Int)<0 then _ else _) _ _ s
  rw [if_pos (by decide)]
  refine wpAny_bind (wpAny_rule ?_)
  refine wpAny_bind ?_
  exact stop_made (A:=A.in1) hb fun h1 e k he=>wpAny_bind (is_stop he (wpAny_pure (hQ h1 fun b o _ h=>k b o h)))
end
def Itv (K:PySem.W.Frag) (a:Addr) (n:Nat):It :=
  ⟨fun i H=>i<n∧∃ xs,SqL K H a xs∧xs.length=n,fun i H x H'=>H'=H∧∀ xs,SqL K H a xs→xs[n-1-i]?=some x,fun i H=>i=n⟩
theorem turn_rev {P:Program} {w:World} {K:PySem.W.Frag} {tg:Expr} (a it:Addr) (n:Nat):Turn P w K tg (Itv K a n) [it] it (fun i h=>h.IsRevIter it a ((n:Int)-1-(i:Int))) where
  mem:=by simp
  obj:=fun i h st b hb=>by
    have e:b=it:=by simpa using hb
    subst e
    obtain ⟨o,e,c,d⟩:=st
    exact ⟨o,e,fun v z=>by rw [d] at z; cases z⟩
  keep:=fun i h h' st k=>st.at fun o e=>k it (by simp) o e
  item:=by
    intro X hP hw hK hc i pins s σ H E I hf st hg
    subst hP hw hK
    obtain ⟨hi,xs,hq,hn⟩:=hg
    obtain ⟨its,rv,p,hz⟩:=I.list hq
    have hx:xs[n-1-i]?=some (xs[n-1-i]'(by omega)):=List.getElem?_eq_getElem (by omega)
    obtain ⟨u,hu,ru⟩:=rv.get hx
    obtain ⟨f0,f1,f2,f3,f4,f5⟩:=hf it (by simp)
    have e:(n:Int)-1-(i:Int)=((n-1-i:Nat):Int):=by omega
    have st:s.heap.IsRevIter it a ((n-1-i:Nat):Int):=by rw [← e]; exact st
    refine wpAny_pyNext_rev_item st p.isList (x:=u) (by simpa using hu) fun h' st' sb=>?_
    have I1:Inv X pins σ H { s with heap:=h' }:=I.turned (t':=s.toks) (fun b o hb e=>(sb.2 b hb).trans e) f0 f1 f3 f4 f5
    have e2:((n-1-i:Nat):Int)-1=(n:Int)-1-((i+1:Nat):Int):=by omega
    rw [e2] at st'
    obtain ⟨o,e,c,d⟩:=id st'
    exact ⟨u,rfl,go_of (s:={ s with heap:=h' }) e c d (by decide) ⟨_,H,I1,ru,⟨rfl,fun ys hy=>by rw [I.list_inj hy hq]; exact hx⟩,st',fun b hb=>(hf b hb).1⟩⟩
  done:=by
    intro X hP hw hK hc i pins s σ H E I hf st hg
    subst hP hw hK
    obtain ⟨f0,f1,f2,f3,f4,f5⟩:=hf it (by simp)
    have hg:i=n:=hg
    have e:(n:Int)-1-(i:Int)=-1:=by omega
    have st:s.heap.IsRevIter it a (-1):=by rw [← e]; exact st
    exact next_rev_end (I.hb hc) st fun h' eb=>⟨rfl,I.turned (t':=s.toks) (fun b o hb e=>eb b o hb e) f0 f1 f3 f4 f5⟩
  self:=fun _ _ _ _ _ st h=>wpAny_pyIter_revIter st h
def iRev (K:PySem.W.Frag) (ta:TA):TI:=fun σ H R=>ta σ H fun vs H1=>∃ a xs,vs=[.ref a]∧SqL K H1 a xs∧R (Itv K a xs.length) H1
theorem pi_rev {X:Cx} {tg:Expr} {a:Expr} {ta:TA} {p pos:Pos} (hg:Gl X "reversed") (hm:X.mg "reversed" = none) (ha:PA X [a] ta) (hs:starEach [a] X.env=[(false,eval a X.env)]:=by rfl):PI X tg (.Call (.Name "reversed" p) [a] [] pos) (iRev X.K ta):=by
  intro pins s σ H R I h
  refine Call_ (ld_blt I hg hm boot_reversed (PyProof.Rows.callWith_type1 (thn (ha pos pins s σ H _ I h) fun us s1 ⟨vs,H1,I1,r1,q1⟩=>?_) (by rw [hs]; rfl) (by rfl)))
  obtain ⟨a1,xs,e,k1,q⟩:=q1
  subst e
  obtain ⟨u1,rfl,ru1⟩:=Vals.one r1
  cases ru1
  obtain ⟨its1,rv1,p1,_⟩:=I1.list k1
  refine call_reversed_list p1.isList ?_
  have el:((its1.toArray.size:Nat):Int)-1=((xs.length:Nat):Int)-1-((0:Nat):Int):=by rw [List.size_toArray,← rv1.length]; omega
  have z1:({ s1 with heap:=s1.heap.push (revObj a1 (((its1.toArray.size:Nat):Int)-1)) }:Shared).heap.IsRevIter s1.heap.objs.size a1 (((xs.length:Nat):Int)-1-((0:Nat):Int)):=by
    rw [← el]
    exact ⟨_,Heap.get?_push_size _ rfl,rfl,rfl⟩
  refine wpAny_pyIter_revIter z1 ?_
  refine ⟨s1.heap.objs.size,[s1.heap.objs.size],_,_,H1,rfl,I1.kept (t':=s1.toks) fun b o e=>Heap.get?_push_of_some _ e,turn_rev a1 _ xs.length,z1,fun b hb=>?_,q⟩
  have e:b=s1.heap.objs.size:=by simpa using hb
  subst e
  exact I1.fpOk (Nat.le_refl _) (I1.hok.fresh (Nat.le_refl _))
theorem isStrOf_at (k:Str):∀ {vs:List Value} {ns:List Str},StrsAre vs ns→∀ (j:Nat) (h1:j<vs.length) (h2:j<ns.length),isStrOf k vs[j]=(ns[j]==k)
  | _,_,.cons n t _,0,_,_=>rfl
  | _,_,.cons n t r,j+1,h1,h2=>isStrOf_at k r j (Nat.lt_of_succ_lt_succ h1) (Nat.lt_of_succ_lt_succ h2)
theorem ne_lt_idxS {k : Str} : ∀ {ns : List Str} {j : Nat}, j < ns.idxOf k → ∀ (h2 : j < ns.length), (ns[j] == k) = false
  | n::r,0,h,_=>by
    by_cases e:n=k
    · subst e; simp at h
    · simpa using e
  | n :: r, j + 1, h, h2 => by
    by_cases e:n=k
    · subst e; simp at h
    · have hb:(n==k)=false:=by simpa using e
      have h':j<r.idxOf k:=by
        rw [List.idxOf_cons,hb] at h
        exact Nat.lt_of_succ_lt_succ h
      exact ne_lt_idxS h' (Nat.lt_of_succ_lt_succ h2)
def rLIndex (K:PySem.W.Frag):V→List V→Hp→VK→Prop:=fun x vs H Q=>∃ (l:Addr) (ys:List Str) (y:Str),x=.ref l∧vs=[.str y]∧SqL K H l (ys.map V.str)∧y∈ys∧ys.length≤100000∧Q (.int (ys.idxOf y:Nat)) H
theorem mt_lindex {X:Cx}:MtR X "list.index" (rLIndex X.K):=by
  intro pins s σ H x vs v us Q I rx rv h
  obtain ⟨l,ys,y,rfl,rfl,hq,hy,hn,q⟩:=h
  cases rx
  obtain ⟨u,rfl,ru⟩:=rv.one
  obtain ⟨tk,rfl⟩:=(show ∃ t,u=Value.str y t from ru)
  obtain ⟨its,r,pl,hz⟩:=I.list hq
  have hi:=strs_are r
  obtain ⟨⟨cls,dd,data,sl⟩,ho,hc,n,hd⟩:=id pl.isList
  simp only at hc hd
  subst hc hd
  have hlen:its.length=ys.length:=by rw [← r.length,List.length_map]
  have hj:ys.idxOf y<ys.length:=List.idxOf_lt_length_iff.mpr hy
  refine call_meets PySem.F.slot_list_index ⟨_,ho,rfl⟩ PySem.F.entry_list_index (PySem.F.args_list_index_2 _ _)
    (SeqAt.list_indexAt l its.toArray n dd sl (.str y tk) (isStrOf y) (ys.idxOf y) (by simpa [hlen] using hj) (by omega) ?_ ?_) ⟨ho,fun z hz=>(eq_isStrOf y tk hi z (by simpa using hz)).at _ _,⟨.int (ys.idxOf y:Nat),H,I.tok _,⟨_,rfl⟩,q⟩⟩
  · show isStrOf y its[ys.idxOf y]=true
    rw [isStrOf_at y hi _ (by omega) hj]
    simpa using List.getElem_idxOf hj
  · intro j hjs hlt
    show isStrOf y its[j]=false
    rw [isStrOf_at y hi j (by simpa using hjs) (by omega)]
    exact ne_lt_idxS hlt _
end L3
end
section
set_option maxHeartbeats 4000000
namespace K55
open PySem L2 L3 KM PyProof.Rows
seal L2.PE L2.PS L2.PSs L2.PT L2.PW L2.PA L2.PG L2.PGs L2.PI L2.PC L2.PO L2.PPs L2.PK L3.PIf L3.PEp L3.PSp L3.PSsp L3.PSg
variable {P:Program} {w:World} {K:PySem.W.Frag} {mg:Str→Option Value} {base:Heap} {t:Adr}
structure Fo where
  word:Str
  name:Option Str
  due:List Str
  parts:List D
def nmV:Option Str→V
  | none=>.non
  | some z=>.str z
def bndB (f:Fo):Bool:=f.name.isSome && decide (overV f.word=.int (f.parts.length:Nat))
def spBH (K:PySem.W.Frag) (C:Addr):Sp:=fun vs H Q _=>∃ (x p:Addr) (w:Str) (n:Option Str) (ds ps:List V),vs=[.ref x]∧Fm K C H x (.str w) (nmV n) ds p ps∧(n.isSome=true→∃ i:Int,KTD.datumAt w BO=some (.int i))∧Q (.bl (n.isSome && decide (overV w=.int (ps.length:Nat)))) H
theorem sc_Form_binds_here:FnScope ["self"] ["self"] (defScope s_Form_binds_here):=⟨rfl,rfl,rfl,by decide +kernel,rfl,by decide +kernel,by decide +kernel⟩
theorem c_Form_binds_here (D:Dm K t.Form "binds_here" "Form.binds_here" s_Form_binds_here ["self"]) (M:Mg mg t) (K_Form:FormK K t.Form) (B:TabK K t.BINDER_OVER BO):CalM P w K mg CX0 t.Form "binds_here" (1) ["self"] (spBH K t.Form):=by
  refine D.ok sc_Form_binds_here (fun vs H Q E h=>?_) (fun base f cdv A outer s H vs Q E hr h=>?_)
  · obtain ⟨x,p,w,n,ds,ps,rfl,_⟩:=h
    rfl
  obtain ⟨x,p,w,n,ds,ps,rfl,F,hb,q⟩:=h
  obtain ⟨dx,d,hx,hd⟩:=F.obj
  refine ⟨_,(pss_one (ps_ret (pe_and (pe_cmpR op_notN (pe_fld (pv 0) rfl) pe_non (nomark _)) (pe_one (pe_cmpR op_eq (pe_tab (pe_gref M.g_BINDER_OVER rfl) (pe_fld (pv 0) rfl) (fun _ _=>rfl)) (pe_callB call_len_seq rfl M.n_len bt_len (pa_cons (pe_fld (pv 0) rfl) pa_nil)) (nomark _)))))),?_⟩
  try dsimp only [cxK,cxK2]
  refine ⟨_,rfl,x,t.Form,dx,_,_,rfl,hx,K_Form.cls,K_Form.name,rfl,rfl,?_⟩
  cases n with
  | none=>exact ⟨_,rfl,iteF q⟩
  | some z =>
    obtain ⟨i,hi⟩:=hb rfl
    refine ⟨_,rfl,iteT ?_⟩
    refine ⟨_,rfl,x,t.Form,dx,_,_,rfl,hx,K_Form.cls,K_Form.word,rfl,_,_,w,_,rfl,rfl,B,hi,_,rfl,x,t.Form,dx,_,_,rfl,hx,K_Form.cls,K_Form.parts,rfl,p,_,rfl,.inl (SqL.of F.parts),rfl,?_⟩
    have e:overV w=.int i:=by unfold overV; rw [hi]; rfl
    rw [e] at q
    exact q
def spClosed (K:PySem.W.Frag) (C N:Addr):Sp:=fun vs H Q E=>∃ (x p:Addr) (w n:V) (ds ps:List V),vs=[.ref x]∧Fm K C H x w n ds p ps∧ps.length≤100∧(ps.length≠ds.length→E (.ref N) none H) ∧
  (ps.length=ds.length→∀ (q:Addr) (H':Hp),H' q=some (.tup (w::ps))→Same H H'→Q (.ref q) H')
theorem sc_Form_closed:FnScope ["self"] ["self"] (defScope s_Form_closed):=⟨rfl,rfl,rfl,by decide +kernel,rfl,by decide +kernel,by decide +kernel⟩
theorem c_Form_closed (D:Dm K t.Form "closed" "Form.closed" s_Form_closed ["self"]) (M:Mg mg t) (K_Form:FormK K t.Form) (E_NoText:ExcK K t.NoText) (F_Form_is_full:CalM P w K mg CX0 t.Form "is_full" (1) ["self"] (spFull K t.Form)):CalM P w K mg (CXo P w) t.Form "closed" (2) ["self"] (spClosed K t.Form t.NoText):=by
  refine D.okX sc_Form_closed (fun vs H Q E h=>?_) (fun base f cdv A outer s H vs Q E hr h=>?_)
  · obtain ⟨x,p,w,n,ds,ps,rfl,_⟩:=h
    rfl
  obtain ⟨x,p,w,n,ds,ps,rfl,F,hl,e1,q⟩:=h
  obtain ⟨dx,d,hx,hd⟩:=id F.obj
  refine ⟨_,(pss_cons (ps_if (pt_not (pt_val (pe_mC0 F_Form_is_full K_Form.cls (hr.mono (by omega)) pass0 (pv 0)))) (pss_one (ps_raise (G:=(fun H'=>E (.ref t.NoText) none H')) E_NoText M.g_NoText (pa_cons pe_str pa_nil) (fun pins σ H s e h' I m q=>xe_made I m q))) pss_nil)
      (pss_one (ps_ret (pe_op op_catU (pe_tup (pa_cons (pe_fld (pv 0) rfl) pa_nil)) (pe_callTy call_tuple_of rfl M.n_tuple bt_tuple (pa_cons (pe_fld (pv 0) rfl) pa_nil)))))),?_⟩
  try dsimp only [cxK,cxK2]
  refine let2 ?_
  intro _ _
  have ef:(decide (ps.length=ds.length))=true↔ps.length=ds.length:=decide_eq_true_iff
  refine ⟨_,rfl,x,dx,_,rfl,hx,rfl,x,p,w,n,ds,ps,rfl,F,_,rfl,?_⟩
  by_cases c:ps.length=ds.length
  · rw [decide_eq_true c]
    refine iteF ⟨_,rfl,x,t.Form,dx,_,_,rfl,hx,K_Form.cls,K_Form.word,rfl,(by show 1≤sizeLine; decide),fun p1 hp1=>?_⟩
    have t1:=same_new hp1 (.tup [w])
    have hp1':(upd H p1 (.tup [w])) p1=some (.tup [w]):=upd_same
    generalize upd H p1 (.tup [w])=H1 at t1 hp1' ⊢
    refine ⟨_,rfl,x,t.Form,dx,_,_,rfl,t1 _ _ hx,K_Form.cls,K_Form.parts,rfl,p,_,rfl,.inl ⟨SqL.of (t1 _ _ F.parts),fun l hl=>?_⟩⟩
    have t2:=same_new hl (.tup ps)
    exact ⟨p1,l,[w],ps,rfl,rfl,t2 _ _ hp1',upd_same,(by rw [sizeLine_eq,List.length_singleton]; omega),fun p' H' s h'=>q c p' H' h' (t1.trans (t2.trans s))⟩
  · rw [decide_eq_false c]
    exact iteT ⟨by decide,e1 c⟩
def vS:V→Str
  | .str x=>x
  | _ => ""
def dues (x:Str):List Str:=((rows18.lookup x).getD []).map vS
theorem dues_ok:(rows18.all fun r=>r.2.all fun v=>decide (V.str (vS v)=v))=true:=by decide +kernel
theorem dues_eq (x : Str) : (dues x).map V.str = (rows18.lookup x).getD [] := by
  have key:∀ rs:List (Str×List V),(rs.all fun r=>r.2.all fun v=>decide (V.str (vS v)=v))=true→(((rs.lookup x).getD []).map vS).map V.str=(rs.lookup x).getD []:=fun rs=>by
    induction rs with
    | nil=>intro _; rfl
    | cons r rs ih =>
      intro h
      rw [List.all_cons,Bool.and_eq_true] at h
      rw [List.lookup_cons]
      split
      · show (r.2.map vS).map V.str=r.2
        rw [List.map_map]
        conv=>rhs; rw [← List.map_id r.2]
        exact List.map_congr_left fun v hv=>of_decide_eq_true (List.all_eq_true.mp h.1 v hv)
      · exact ih h.2
  exact key rows18 dues_ok
theorem dues_few (x : Str) : (dues x).length ≤ 4 := by
  have:(rows18.all fun r=>decide (r.2.length≤4))=true:=by decide +kernel
  unfold dues
  rw [List.length_map]
  cases e:rows18.lookup x with
  | none=>exact Nat.zero_le _
  | some ds =>
    have h:∀ rs:List (Str×List V),rs.lookup x=some ds→∃ r∈rs,r.2=ds:=fun rs=>by
      induction rs with
      | nil=>intro h; cases h
      | cons r rs ih =>
        intro h
        rw [List.lookup_cons] at h
        split at h
        · exact ⟨r,List.mem_cons_self,Option.some.inj h⟩
        · obtain ⟨q,h1,h2⟩:=ih h
          exact ⟨q,List.mem_cons_of_mem _ h1,h2⟩
    obtain ⟨r,h1,rfl⟩:=h rows18 e
    exact of_decide_eq_true (List.all_eq_true.mp this r h1)
def foW (hs:List Str):Str:=hs.headD ""
def formD (hs : List Str) : Option Fo :=
  if dues (foW hs)=[] then none else if inT (foW hs) BO=false then some ⟨foW hs,none,dues (foW hs),[]⟩ else match hs with
    | [_,n]=>if nameD (.str n)=true then some ⟨foW hs,some n,dues (foW hs),[]⟩ else none
    | _=>none
theorem make_ok {C:Addr} {H:Hp} {w n d:V} {Q:VK} {E:XK} (hQ:∀ (x dx p:Addr) (H':Hp),Same H H'→H x=none→H p=none→x≠p→H' x=some (.ins C dx (fmF w n d p))→H' p=some (.lst [])→Q (.ref x) H') :
    ∀ (x dx:Addr) {o:HO},H x=none→H dx=none→x≠dx→spInit C [.ref x,w,n,d] (upd (upd H dx o) x (.ins C dx [])) (fun r H'=>r=.non∧Q (.ref x) H') E:=fun x dx o hx hdx nxd =>
  ⟨x, dx, w, n, d, rfl, upd_same, fun p H3 hp npx hp3 hx3 keep => ⟨rfl, hQ x dx p H3 (fun b ob h => by
    have n1:b≠x:=ne_of_none h hx
    have n2:b≠dx:=ne_of_none h hdx
    exact keep b ob n1 (by rw [upd_ne n1,upd_ne n2]; exact h)) hx (by
      rw [upd_ne npx] at hp
      by_cases e:p=dx
      · rw [e]; exact hdx
      · rw [upd_ne e] at hp; exact hp) npx.symm hx3 hp3⟩⟩
theorem due_at {a:Addr} {as:List Addr} (T:KD K a rows18 as) (x:Str) {H:Hp} {p0:Addr} (h:H p0=some (.tup [])):∃ d:Addr,(KTD.datumAt x ((rows18.zip as).map fun p=>(p.1.1,V.ref p.2))).getD (.ref p0)=.ref d∧SqT K H d ((rows18.lookup x).getD []):=by
  cases e:rows18.lookup x with
  | some ds =>
    obtain ⟨b,h1,h2⟩:=T.some e
    exact ⟨b,by rw [h1]; rfl,h2 H⟩
  | none =>
    rcases datum_zip (x:=x) (fun p=>V.ref p.2) rows18 as T.len with ⟨r,b,h1,h2,h3,h4⟩ | ⟨_,h2⟩
    · rw [e] at h3; cases h3
    · exact ⟨p0,by rw [h2]; rfl,SqT.of h⟩
theorem pick {c:Bool} {T1 T2:VK→Prop} {G:VK} {v:V} {H:Hp} (h1:c=true→∀ R:VK,R v H→T1 R) (h2:c=false→∀ R:VK,R v H→T2 R) (h:G v H):if c=true then T1 G else T2 G:=by
  cases c with
  | true=>exact iteT (h1 rfl G h)
  | false=>exact iteF (h2 rfl G h)
def spFormOf (K:PySem.W.Frag) (C N:Addr):Sp:=fun vs H Q E=>∃ (a:Addr) (hs:List Str),vs=[.ref a]∧H a=some (.lst (hs.map V.str))∧hs.length≤2∧(∀ z∈hs,z.length≤1000)∧(formD hs=none→∀ H',Same H H'→E (.ref N) none H') ∧
  ∀ fo:Fo,formD hs=some fo→∀ (x p:Addr) (H':Hp),Same H H'→H x=none→H p=none→x≠p→Fm K C H' x (.str fo.word) (nmV fo.name) (fo.due.map V.str) p []→Q (.ref x) H'
theorem sc_form_of:FnScope ["head", "word", "due"] ["head"] (defScope s_form_of):=⟨rfl,rfl,rfl,by decide +kernel,rfl,by decide +kernel,by decide +kernel⟩
theorem c_form_of (D:Df K mg "form_of" s_form_of ["head"]) (M:Mg mg t) (E_NoText:ExcK K t.NoText) {as:List Addr} (T:KD K t.KIDS_DUE rows18 as) (B:TabK K t.BINDER_OVER BO) (F_is_name:Cal P w K mg CX0 "is_name" (1) ["value"] spIsName) (F_Form_init:CalN P w K mg "Form" t.Form 1 ["self", "word", "name", "due"] (spInit t.Form)):Cal P w K mg (CXo P w) "form_of" (3) ["head"] (spFormOf K t.Form t.NoText):=by
  refine D.okX sc_form_of (fun vs H Q E h=>?_) (fun base f cdv A outer s H vs Q E hr h=>?_)
  · obtain ⟨a,hs,rfl,_⟩:=h
    rfl
  obtain ⟨a,hs,rfl,ha,hl,hz,qe,q⟩:=h
  refine ⟨_,(pss_cons (ps_set (i:=1) sc_form_of.nd rfl (by first | exact Or.inl rfl | exact Or.inr rfl) (pe_ifExp (pt_cmpR op_gt (pe_callB call_len_seq rfl M.n_len bt_len (pa_cons (pv 0) pa_nil)) pe_int (nomark _)) (pe_ix ix_list (pv 0) pe_int (fun _ _=>rfl)) pe_str))
      (pss_cons (ps_set (i:=2) sc_form_of.nd rfl (by first | exact Or.inl rfl | exact Or.inr rfl) (pe_tget2 (pe_gref M.g_KIDS_DUE rfl) (pv 1) (pe_tup pa_nil) ⟨rfl,rfl,rfl,rfl⟩))
      (pss_cons (ps_if (pt_cmpR op_eq (pe_callB call_len_seq rfl M.n_len bt_len (pa_cons (pv 2) pa_nil)) pe_int (nomark _)) (pss_one (ps_raise (G:=(fun H'=>E (.ref t.NoText) none H')) E_NoText M.g_NoText (pa_cons pe_str pa_nil) (fun pins σ H s e h' I m q=>xe_made I m q))) pss_nil)
      (pss_cons (ps_if (pt_cmpR op_notin_tab (pv 1) (pe_gref M.g_BINDER_OVER rfl) rfl) (pss_one (ps_ret (pe_mkC F_Form_init (hr.mono (by omega)) rfl pass0 (pa_cons (pv 1) (pa_cons pe_non (pa_cons (pv 2) pa_nil)))))) pss_nil)
      (pss_cons (ps_if (L2.PW.pt (pw_or (pt_cmpR op_lt (pe_callB call_len_seq rfl M.n_len bt_len (pa_cons (pv 0) pa_nil)) pe_int (nomark _)) (pw_or1 (pt_not (pt_val (pe_fn F_is_name (hr.mono (by omega)) rfl pass0 (pa_cons (pe_ix ix_list (pv 0) pe_int (fun _ _=>rfl)) pa_nil))))))) (pss_one (ps_raise (G:=(fun H'=>E (.ref t.NoText) none H')) E_NoText M.g_NoText (pa_cons pe_str pa_nil) (fun pins σ H s e h' I m q=>xe_made I m q))) pss_nil)
      (pss_one (ps_ret (pe_mkC F_Form_init (hr.mono (by omega)) rfl pass0 (pa_cons (pv 1) (pa_cons (pe_ix ix_list (pv 0) pe_int (fun _ _=>rfl)) (pa_cons (pv 2) pa_nil))))))))))),?_⟩
  try dsimp only [cxK,cxK2]
  refine let6 ?_
  intro _ _ _ _ _ _
  refine ⟨_,rfl,a,_,rfl,.inl (SqL.of ha),_,_,rfl,rfl,_,rfl,?_⟩
  refine pick (T1:=fun G=>tOp (rIxL K) (tVar 0) (tC (.int 0)) _ H G) (T2:=fun G=>tC (.str "") _ H G) (v:=.str (foW hs)) (H:=H) (fun c R h=>?_) (fun c R h=>?_) ?_
  · cases hs with
    | nil=>cases c
    | cons z r=>exact ⟨_,rfl,a,_,_,_,rfl,rfl,SqL.of ha,atI_nat (j:=0) rfl,h⟩
  · cases hs with
    | nil=>exact h
    | cons z r=>exact absurd c (by simp)
  refine ⟨_,_,rfl,T.tab,_,rfl,(by show 0≤sizeLine; decide),fun p0 hp0=>⟨_,rfl,?_⟩⟩
  have t1:=same_new hp0 (.tup [])
  obtain ⟨d,hd,hq⟩:=due_at T (foW hs) (show (upd H p0 (.tup [])) p0=some (.tup []) from upd_same)
  rw [hd,← dues_eq] at *
  generalize upd H p0 (.tup [])=H1 at t1 hq ⊢
  clear hp0
  have ha1:=t1 _ _ ha
  refine ⟨_,rfl,d,_,rfl,.inr hq,rfl,_,rfl,?_⟩
  have el:decide (V.int (((dues (foW hs)).map V.str).length:Nat)=V.int 0)=decide (dues (foW hs)=[]):=by
    generalize dues (foW hs)=l
    cases l with
    | nil=>rfl
    | cons a l=>exact (decide_eq_false fun z=>by have z:=V.int.inj z; simp only [List.length_map,List.length_cons] at z; omega).trans (decide_eq_false (by simp)).symm
  rw [el]
  have fin:∀ (fo:Fo) (nv:V),formD hs=some fo→fo.word=foW hs→fo.due=dues (foW hs)→nmV fo.name=nv→∀ (x dx p:Addr) (H':Hp),Same H1 H'→H1 x=none→H1 p=none→x≠p→H' x=some (.ins t.Form dx (fmF (.str (foW hs)) nv (.ref d) p))→H' p=some (.lst [])→Q (.ref x) H':=by
    intro fo nv e1 e2 e3 e4 x dx p H' s hx hp nxp hx' hp'
    refine q fo e1 x p H' (t1.trans s) (t1.free hx) (t1.free hp) nxp ⟨⟨dx,d,by rw [e2,e4]; exact hx',?_⟩,hp'⟩
    rw [e3]
    rcases hq with h | h
    · exact .inl (h.imp (fun h=>s _ _ h) fun ⟨o,h⟩=>⟨o,s _ _ h⟩)
    · exact .inr h
  by_cases c0:dues (foW hs)=[]
  · rw [decide_eq_true c0]
    exact iteT ⟨by decide,qe (by unfold formD; rw [if_pos c0]) H1 t1⟩
  rw [decide_eq_false c0]
  refine iteF ⟨_,rfl,_,_,_,rfl,rfl,B,_,rfl,?_⟩
  cases hb:inT (foW hs) BO with
  | false =>
    refine iteT ⟨_,rfl,_,rfl,fun x dx hx hdx nxd=>make_ok (fin ⟨foW hs,none,dues (foW hs),[]⟩ .non (by unfold formD; rw [if_neg c0,if_pos hb]) rfl rfl rfl) x dx hx hdx nxd.symm⟩
  | true =>
    refine iteF ?_
    refine ⟨_,rfl,a,_,rfl,.inl (SqL.of ha1),_,_,rfl,rfl,_,rfl,?_⟩
    match hs,hl,hz,ha1,qe,fin,c0,hb with
    | [],_,_,_,qe,_,c0,hb=>exact iteT (iteT ⟨by decide,qe (by unfold formD; rw [if_neg c0,if_neg (by rw [hb]; decide)]) H1 t1⟩)
    | [z],_,_,_,qe,_,c0,hb=>exact iteT (iteT ⟨by decide,qe (by unfold formD; rw [if_neg c0,if_neg (by rw [hb]; decide)]) H1 t1⟩)
    | [z,n],_,hz,ha1,qe,fin,c0,hb =>
      refine iteF ⟨_,rfl,a,_,_,_,rfl,rfl,SqL.of ha1,atI_nat (j:=1) rfl,.str n,.str n,rfl,⟨rfl,hz n (by simp)⟩,fun H2 s2=>⟨_,rfl,?_⟩⟩
      cases hn:nameD (.str n) with
      | false=>exact iteT ⟨by decide,qe (by unfold formD; rw [if_neg c0,if_neg (by rw [hb]; decide)]; show (if nameD (.str n)=true then _ else _)=none; rw [hn]; rfl) H2 (t1.trans s2)⟩
      | true =>
        refine iteF ⟨_,rfl,_,rfl,a,_,_,_,rfl,rfl,SqL.of (s2 _ _ ha1),atI_nat (j:=1) rfl,_,rfl,fun x dx hx hdx nxd=>make_ok (fun x dx p H' s hx hp nxp hx' hp'=>fin ⟨foW [z,n],some n,dues (foW [z,n]),[]⟩ (.str n) (by unfold formD; rw [if_neg c0,if_neg (by rw [hb]; decide)]; show (if nameD (.str n)=true then _ else _)=_; rw [hn]; rfl) rfl rfl rfl x dx p H' (s2.trans s) (s2.free hx) (s2.free hp) nxp hx' hp') x dx hx hdx nxd.symm⟩
    | _::_::_::_,hl,_,_,_,_,_,_=>simp at hl
def nmG (z:Str) (names:List Str):List Fo→Nat→D
  | [],b=>if z∈names then .tup [.str "var",.int ((b+names.idxOf z:Nat):Int)] else .tup [.str "name",.str z]
  | f::r,b=>if bndB f=true then (if f.name=some z then .tup [.str "var",.int (b:Nat)] else nmG z names r (b+1)) else nmG z names r b
def FmD (K:PySem.W.Frag) (C:Addr) (H:Hp) (x p:Addr) (f:Fo):Prop:=(∃ ps,Fm K C H x (.str f.word) (nmV f.name) (f.due.map V.str) p ps∧Reps H f.parts ps)∧(f.name.isSome=true→∃ i:Int,KTD.datumAt f.word BO=some (.int i))
def spNamed (K:PySem.W.Frag) (C:Addr):Sp:=fun vs H Q E=>∃ (a b:Addr) (z:Str) (st:List (Addr×Addr×Fo)) (names:List Str),vs=[.str z,.ref a,.ref b]∧H a=some (.lst ((st.map fun q=>V.ref q.1).reverse))∧st.length≤100000∧(∀ q∈st,FmD K C H q.1 q.2.1 q.2.2)∧SqL K H b (names.map V.str)∧names.length≤1000∧z.length≤1000 ∧
  ∀ (v:V) (H':Hp),Same H H'→Rep H' (nmG z names (st.map (·.2.2)) 0) v→Q v H'
theorem sc_thing_named:FnScope ["word", "forms", "names", "binders", "form"] ["word", "forms", "names"] (defScope s_thing_named):=⟨rfl,rfl,rfl,by decide +kernel,rfl,by decide +kernel,by decide +kernel⟩
theorem c_thing_named (D:Df K mg "thing_named" s_thing_named ["word", "forms", "names"]) (M:Mg mg t) (K_Form:FormK K t.Form) (F_Form_binds_here:CalM P w K mg CX0 t.Form "binds_here" (1) ["self"] (spBH K t.Form)):Cal P w K mg CX0 "thing_named" (2) ["word", "forms", "names"] (spNamed K t.Form):=by
  refine D.ok sc_thing_named (fun vs H Q E h=>?_) (fun base f cdv A outer s H vs Q E hr h=>?_)
  · obtain ⟨a,b,z,st,names,rfl,_⟩:=h
    rfl
  obtain ⟨a,b,z,st,names,rfl,ha,hst,hF,hb,hnl,hzl,q⟩:=h
  refine ⟨_,(pss_cons (ps_set (i:=3) sc_thing_named.nd rfl (by first | exact Or.inl rfl | exact Or.inr rfl) pe_int)
      (pss_cons (ps_for PassesOwn.never rfl (pi_rev rfl M.n_reversed (pa_cons (pv 1) pa_nil)) (pg_name (i:=4) sc_thing_named.nd rfl (by first | exact Or.inl rfl | exact Or.inr rfl)) (pss_one (ps_if (pt_val (pe_mC0 F_Form_binds_here K_Form.cls (hr.mono (by omega)) pass0 (pv 4))) (pss_cons (ps_if (pt_cmpR op_eq (pe_fld (pv 4) rfl) (pv 0) (nomark _)) (pss_one (ps_ret (pe_tup (pa_cons pe_str (pa_cons (pv 3) pa_nil))))) pss_nil)
      (pss_one (ps_aug (i:=3) sc_thing_named.nd rfl (by first | exact Or.inl rfl | exact Or.inr rfl) pe_int ip_add))) pss_nil)))
      (pss_cons (ps_if (pt_cmpR op_in_seq (pv 0) (pv 2) rfl) (pss_one (ps_ret (pe_tup (pa_cons pe_str (pa_cons (pe_op op_add (pv 3) (pe_bm PySem.F.plainAttrs_list PySem.F.slot_list_index PySem.F.type_list_index mt_lindex (pv 2) (pa_cons (pv 0) pa_nil))) pa_nil))))) pss_nil)
      (pss_one (ps_ret (pe_tup (pa_cons pe_str (pa_cons (pv 0) pa_nil)))))))),?_⟩
  try dsimp only [cxK,cxK2]
  refine let4 ?_
  intro _ _ _ _
  refine ⟨_,rfl,a,_,rfl,SqL.of ha,?_⟩
  have hlen:((st.map fun q=>V.ref q.1).reverse).length=st.length:=by simp
  rw [hlen]
  let Ifr:Nat→L2.St→Hp→Prop:=(fun i σ' H'=>∃ (bn:Nat) (fv:Option V),σ'=[some (.str z),some (.ref a),some (.ref b),some (.int (bn:Nat)),fv]∧H'=H∧bn≤i∧nmG z names (st.map (·.2.2)) 0=nmG z names ((st.drop i).map (·.2.2)) bn)
  refine for_by st.length Ifr ?_ ?_ ?_
  · exact ⟨0,none,rfl,rfl,Nat.le_refl _,by rw [List.drop_zero]⟩
  · rintro i σ' H1 hi ⟨bn,fv,rfl,rfl,hbn,hnm⟩
    refine ⟨⟨hi,_,SqL.of ha,hlen⟩,?_⟩
    rintro x' H2 ⟨rfl,hx⟩
    have hx:=hx _ (SqL.of ha)
    have hix:((st.map fun q=>V.ref q.1).reverse)[st.length-1-i]?=some (V.ref (st[i]).1):=by
      rw [List.getElem?_reverse (by rw [List.length_map]; omega),List.length_map,show st.length-1-(st.length-1-i)=i by omega,List.getElem?_map,List.getElem?_eq_getElem hi]
      rfl
    rw [hix] at hx
    cases hx
    have hq:=hF st[i] (List.getElem_mem hi)
    have hdr:(st.drop i).map (·.2.2)=(st[i]).2.2::((st.drop (i+1)).map (·.2.2)):=by rw [List.drop_eq_getElem_cons hi,List.map_cons]
    rw [hdr] at hnm
    generalize st[i]=q0 at hq hnm ⊢
    obtain ⟨x0,p0,fo⟩:=q0
    obtain ⟨⟨ps,F,rp⟩,hbo⟩:=hq
    dsimp only at F rp hbo hnm ⊢
    obtain ⟨dx,d,hxo,hd⟩:=id F.obj
    have hpl:ps.length=fo.parts.length:=rp.length
    refine ⟨_,rfl,x0,dx,_,rfl,hxo,rfl,x0,p0,fo.word,fo.name,_,ps,rfl,F,hbo,_,rfl,?_⟩
    have eb:(fo.name.isSome && decide (overV fo.word=V.int ((ps.length:Nat):Int)))=bndB fo:=by unfold bndB; rw [hpl]
    rw [eb]
    have hnm':nmG z names (st.map (·.2.2)) 0=if bndB fo=true then (if fo.name=some z then .tup [.str "var",.int (bn:Nat)] else nmG z names ((st.drop (i+1)).map (·.2.2)) (bn+1)) else nmG z names ((st.drop (i+1)).map (·.2.2)) bn:=hnm
    cases hB:bndB fo with
    | false =>
      rw [hB] at hnm'
      exact iteF ⟨bn,_,rfl,rfl,by omega,by rw [hnm',if_neg (by decide)]⟩
    | true =>
      rw [hB,if_pos rfl] at hnm'
      obtain ⟨y,hy⟩:∃ y,fo.name=some y:=by
        unfold bndB at hB
        cases e:fo.name with
        | none=>rw [e] at hB; cases hB
        | some y=>exact ⟨y,rfl⟩
      refine iteT ⟨_,rfl,x0,t.Form,dx,_,_,rfl,hxo,K_Form.cls,K_Form.name,rfl,_,rfl,?_⟩
      rw [hy] at hnm' ⊢
      refine ⟨rfl,_,rfl,?_⟩
      by_cases e:y=z
      · subst e
        rw [if_pos rfl] at hnm'
        refine ite2 (fun _=>?_) (fun c=>absurd (decide_eq_true rfl) c)
        refine ⟨_,rfl,(by show 2≤sizeLine; decide),fun p2 hp2=>?_⟩
        rw [hnm'] at q
        exact q _ _ (same_new hp2 _) ⟨p2,_,rfl,upd_same,_,_,rfl,⟨rfl,by decide +kernel⟩,_,_,rfl,rfl,rfl⟩
      · rw [if_neg (fun h=>e (Option.some.inj h))] at hnm'
        refine ite2 (fun c=>absurd (by have:=of_decide_eq_true c; injection this) e) (fun _=>?_)
        refine ⟨_,rfl,_,_,rfl,rfl,?_⟩
        exact ⟨bn+1,_,rfl,rfl,by omega,hnm'⟩
  · rintro σ' H1 ⟨bn,fv,rfl,rfl,hbn,hnm⟩
    rw [List.drop_length] at hnm
    have hnm:nmG z names (st.map (·.2.2)) 0=if z∈names then .tup [.str "var",.int ((bn+names.idxOf z:Nat):Int)] else .tup [.str "name",.str z]:=hnm
    refine ⟨rfl,_,rfl,_,rfl,b,_,rfl,.inl hb,rfl,flat_strs _,_,rfl,?_⟩
    rw [inV_strs]
    by_cases hm:z∈names
    · rw [if_pos hm] at hnm
      rw [decide_eq_true hm]
      refine iteT ⟨_,rfl,_,rfl,.inl ⟨rfl,_,hb⟩,_,rfl,b,names,z,rfl,rfl,hb,hm,(by omega),_,_,rfl,rfl,(by show 2≤sizeLine; decide),fun p2 hp2=>?_⟩
      rw [hnm] at q
      exact q _ _ (same_new hp2 _) ⟨p2,_,rfl,upd_same,_,_,rfl,⟨rfl,by decide +kernel⟩,_,_,rfl,rfl,rfl⟩
    · rw [if_neg hm] at hnm
      rw [decide_eq_false hm]
      refine iteF ⟨_,rfl,(by show 2≤sizeLine; decide),fun p2 hp2=>?_⟩
      rw [hnm] at q
      exact q _ _ (same_new hp2 _) ⟨p2,_,rfl,upd_same,_,_,rfl,⟨rfl,by decide +kernel⟩,_,_,rfl,⟨rfl,hzl⟩,rfl⟩
end K55
end
section
set_option maxHeartbeats 4000000
namespace K55
open PySem L2 L3 KM PyProof.Rows
seal L2.PE L2.PS L2.PSs L2.PT L2.PW L2.PA L2.PG L2.PGs L2.PI L2.PC L2.PO L2.PPs L2.PK L3.PIf L3.PEp L3.PSp L3.PSsp L3.PSg
variable {P:Program} {w:World} {K:PySem.W.Frag} {mg:Str→Option Value} {base:Heap} {t:Adr}
def figN (z:Str):Nat:=match PySem.intText? z with | some n=>n.toNat | none=>0
def leafD (z:Str) (names:List Str) (st:List Fo):Option D :=
  if z∈(["nat", "none", "zero"]:List Str) then some (.tup [.str z]) else if figB z=true then some (cntD (figN z)) else if nameD (.str z)=true then some (nmG z names st 0) else none
def spLeafG (K:PySem.W.Frag) (C N:Addr):Sp:=fun vs H Q E=>∃ (a b:Addr) (z:Str) (st:List (Addr×Addr×Fo)) (names:List Str),vs=[.str z,.ref a,.ref b]∧H a=some (.lst ((st.map fun q=>V.ref q.1).reverse))∧st.length≤100000∧(∀ q∈st,FmD K C H q.1 q.2.1 q.2.2)∧H b=some (.lst (names.map V.str))∧names.length≤1000∧1≤z.length∧z.length≤1000 ∧
  (leafD z names (st.map (·.2.2))=none→∀ H',Same H H'→E (.ref N) none H')∧∀ (d:D),leafD z names (st.map (·.2.2))=some d→∀ (v:V) (H':Hp),Same H H'→Rep H' d v→Q v H'
theorem FmD.mono {C x p:Addr} {H H':Hp} {f:Fo} (h:FmD K C H x p f) (s:Same H H'):FmD K C H' x p f:=by
  obtain ⟨⟨ps,F,r⟩,hb⟩:=h
  exact ⟨⟨ps,F.mono s,r.mono s⟩,hb⟩
theorem leafG_ok (D:Df K mg "leaf_of" s_leaf_of ["word", "forms", "names"]) (M:Mg mg t) (E_NoText:ExcK K t.NoText) (Fis_figure:Cal P w K mg CX0 "is_figure" (1) ["word"] spFig) (F_count_of:Cal P w K mg CX0 "count_of" (1) ["number"] spCount) (F_is_name:Cal P w K mg CX0 "is_name" (1) ["value"] spIsName) (F_thing_named:Cal P w K mg CX0 "thing_named" (2) ["word", "forms", "names"] (spNamed K t.Form)):Cal P w K mg (CXo P w) "leaf_of" (3) ["word", "forms", "names"] (spLeafG K t.Form t.NoText):=by
  have F_is_figure:=Fis_figure
  refine D.okX sc_leaf_of (fun vs H Q E h=>?_) (fun base f cdv A outer s H vs Q E hr h=>?_)
  · obtain ⟨a,b,z,st,names,rfl,_⟩:=h
    rfl
  obtain ⟨a,b,z,st,names,rfl,ha,hst,hF,hb,hnl,h1,h2,qe,q⟩:=h
  refine ⟨_,(pss_cons (ps_if (pt_cmpR op_in_seq (pv 0) (pe_tup (pa_cons pe_str (pa_cons pe_str (pa_cons pe_str pa_nil)))) rfl) (pss_one (ps_ret (pe_tup (pa_cons (pv 0) pa_nil)))) pss_nil)
      (pss_cons (ps_if (pt_val (pe_fn F_is_figure (hr.mono (by omega)) rfl pass0 (pa_cons (pv 0) pa_nil))) (pss_one (ps_ret (pe_fn F_count_of (hr.mono (by omega)) rfl pass0 (pa_cons (pe_callTy call_intS rfl M.n_int bt_int (pa_cons (pv 0) pa_nil)) pa_nil)))) pss_nil)
      (pss_cons (ps_if (pt_val (pe_fn F_is_name (hr.mono (by omega)) rfl pass0 (pa_cons (pv 0) pa_nil))) (pss_one (ps_ret (pe_fn F_thing_named (hr.mono (by omega)) rfl pass0 (pa_cons (pv 0) (pa_cons (pv 1) (pa_cons (pv 2) pa_nil)))))) pss_nil)
      (pss_one (ps_raise (G:=(fun H'=>E (.ref t.NoText) none H')) E_NoText M.g_NoText (pa_cons pe_str pa_nil) (fun pins σ H s e h' I m q=>xe_made I m q)))))),?_⟩
  try dsimp only [cxK,cxK2]
  refine let4 ?_
  intro _ _ _ _
  refine ⟨_,rfl,(by show 3≤sizeLine; decide),fun p1 hp1=>⟨p1,(["nat", "none", "zero"]:List Str).map V.str,rfl,.inr (SqT.of upd_same),rfl,rfl,_,rfl,?_⟩⟩
  have s1:=same_new hp1 (.tup [V.str "nat",.str "none",.str "zero"])
  show if (inV (.str z) ((["nat", "none", "zero"]:List Str).map V.str))=true then _ else _
  rw [inV_strs]
  generalize upd H p1 (.tup [V.str "nat",.str "none",.str "zero"])=H1 at s1 ⊢
  by_cases hz:z∈(["nat", "none", "zero"]:List Str)
  · rw [decide_eq_true hz]
    refine iteT ⟨_,rfl,(by show 1≤sizeLine; decide),fun p2 hp2=>?_⟩
    exact q (.tup [.str z]) (by unfold leafD; rw [if_pos hz]) _ _ (s1.trans (same_new hp2 _)) ⟨p2,_,rfl,upd_same,_,_,rfl,⟨rfl,h2⟩,rfl⟩
  rw [decide_eq_false hz]
  refine iteF ⟨_,rfl,z,rfl,h1,(by omega),fun H2 s2=>⟨_,rfl,?_⟩⟩
  have s12:=s1.trans s2
  cases hf:figB z with
  | true =>
    obtain ⟨n,hn39,hv,hzn,hl2⟩:=fig_true h1 hf
    have e:leafD z names (st.map (·.2.2))=some (cntD n):=by
      unfold leafD figN
      rw [if_neg hz,if_pos hf,hv]
      rfl
    exact iteT ⟨_,rfl,z,_,rfl,hv,(by omega),n,rfl,(by omega),fun v H3 s3 r3=>q _ e v H3 (s12.trans s3) r3⟩
  | false =>
    refine iteF ⟨_,rfl,.str z,.str z,rfl,⟨rfl,h2⟩,fun H3 s3=>⟨_,rfl,?_⟩⟩
    have s13:=s12.trans s3
    cases hn:nameD (.str z) with
    | false=>exact iteF ⟨by decide,qe (by unfold leafD; rw [if_neg hz,if_neg (by rw [hf]; decide),if_neg (by rw [hn]; decide)]) H3 s13⟩
    | true =>
      have e:leafD z names (st.map (·.2.2))=some (nmG z names (st.map (·.2.2)) 0):=by
        unfold leafD
        rw [if_neg hz,if_neg (by rw [hf]; decide),if_pos hn]
      refine iteT ⟨_,rfl,_,rfl,_,rfl,a,b,z,st,names,rfl,s13 _ _ ha,hst,fun q0 h0=>(hF q0 h0).mono s13,?_,hnl,h2,fun v H4 s4 r4=>q _ e v H4 (s13.trans s4) r4⟩
      exact SqL.of (s13 _ _ hb)
def isKd:D→Bool
  | .tup (.str y::_)=>kindW y
  | _=>false
def takeD (f:Fo) (d:D):Option Fo:=match f.due[f.parts.length]? with
  | none=>none
  | some dd=>if isKd d=decide (dd = "kind") then some { f with parts:=f.parts++[d] } else none
def clD (f:Fo):D:=.tup (.str f.word::f.parts)
def rdG (names : List Str) : Nat → List Str → List Fo → Option (List Fo)
  | _,[],st=>some st
  | 0,_::_,_=>none
  | n + 1, z :: ws, st =>
    if z = "(" then match formD (ws.take 2) with
      | none=>none
      | some fo=>rdG names n (ws.drop (if fo.name=none then 1 else 2)) (fo::st)
    else if z = ")" then match st with
      | fo::go::r=>if fo.parts.length=fo.due.length then (match takeD go (clD fo) with | some g'=>rdG names n ws (g'::r) | none=>none) else none
      | _=>none
    else match st with
      | fo::r=>(match leafD z names (fo::r) with | some d=>(match takeD fo d with | some f'=>rdG names n ws (f'::r) | none=>none) | none=>none)
      | []=>none
theorem rd_fuel (names:List Str):∀ (n m:Nat) (ws:List Str) (st:List Fo),ws.length≤n→ws.length≤m→rdG names n ws st=rdG names m ws st
  | n,m,[],st,_,_=>by cases n <;> cases m <;> rfl
  | 0,_,_::_,_,h,_=>by simp at h
  | _,0,_::_,_,_,h=>by simp at h
  | n + 1, m + 1, z :: ws, st, h1, h2 => by
    have h1:ws.length≤n:=by simpa using h1
    have h2:ws.length≤m:=by simpa using h2
    simp only [rdG]
    split
    · cases formD (ws.take 2) with
      | none=>rfl
      | some fo=>exact rd_fuel names n m _ _ (by rw [List.length_drop]; omega) (by rw [List.length_drop]; omega)
    split
    · match st with
      | []=>rfl
      | [_]=>rfl
      | fo::go::r =>
        simp only
        split
        · cases takeD go (clD fo) with
          | none=>rfl
          | some g'=>exact rd_fuel names n m _ _ h1 h2
        · rfl
    · match st with
      | []=>rfl
      | fo::r =>
        simp only
        cases leafD z names (fo::r) with
        | none=>rfl
        | some d =>
          simp only
          cases takeD fo d with
          | none=>rfl
          | some f'=>exact rd_fuel names n m _ _ h1 h2
def fo0 (dd:Str):Fo:=⟨"",none,[dd],[]⟩
def outD:Option (List Fo)→Option D
  | some [fo]=>fo.parts.head?
  | _=>none
def readD (names:List Str) (dd:Str) (ws:List Str):Option D:=outD (rdG names ws.length ws [fo0 dd])
theorem take_len {f f':Fo} {d:D} (h:takeD f d=some f'):f.parts.length<f.due.length∧f'={ f with parts:=f.parts++[d] }∧∃ dd,f.due[f.parts.length]?=some dd∧isKd d=decide (dd = "kind"):=by
  unfold takeD at h
  cases e:f.due[f.parts.length]? with
  | none=>rw [e] at h; cases h
  | some dd =>
    rw [e] at h
    simp only at h
    split at h
    · rename_i c
      exact ⟨(List.getElem?_eq_some_iff.mp e).1,(Option.some.inj h).symm,dd,rfl,c⟩
    · cases h
theorem bo_int {x:Str} (h:inT x BO=true):∃ i:Int,KTD.datumAt x BO=some (.int i):=by
  unfold inT at h
  cases e:KTD.datumAt x BO with
  | none=>rw [e] at h; cases h
  | some v =>
    have:v=.int 1∨v=.int 0:=by
      simp only [KTD.datumAt,BO] at e
      repeat' split at e
      all_goals first | (cases e; exact .inl rfl) | (cases e; exact .inr rfl) | cases e
    rcases this with z | z <;> rw [z] <;> exact ⟨_,rfl⟩
theorem form_facts {hs:List Str} {fo:Fo} (h:formD hs=some fo):fo.parts=[]∧fo.due.length≤4∧(fo.name.isSome=true→∃ i:Int,KTD.datumAt fo.word BO=some (.int i))∧(if fo.name=none then 1 else 2)≤hs.length∧fo.word=foW hs:=by
  unfold formD at h
  by_cases c0:dues (foW hs)=[]
  · rw [if_pos c0] at h; cases h
  rw [if_neg c0] at h
  by_cases c1:inT (foW hs) BO=false
  · rw [if_pos c1] at h
    cases h
    refine ⟨rfl,dues_few _,fun z=>(nomatch z),?_,rfl⟩
    rw [if_pos rfl]
    cases hs with
    | nil=>exact absurd (by decide +kernel) c0
    | cons a l=>simp
  · rw [if_neg c1] at h
    match hs,h with
    | [y,n],h =>
      have h:(if nameD (.str n)=true then some (⟨foW [y,n],some n,dues (foW [y,n]),[]⟩:Fo) else none)=some fo:=h
      split at h
      · cases h
        exact ⟨rfl,dues_few _,fun _=>bo_int (by cases e:inT (foW [y,n]) BO with | false=>exact absurd e c1 | true=>rfl),by rw [if_neg (by simp)]; simp,rfl⟩
      · cases h
theorem leaf_tup {z:Str} {names:List Str} {st:List Fo} {d:D} (h:leafD z names st=some d):∃ (y:Str) (ds:List D),d=.tup (.str y::ds):=by
  have nm:∀ (st:List Fo) (b:Nat),∃ (y:Str) (ds:List D),nmG z names st b=.tup (.str y::ds):=fun st=>by
    induction st with
    | nil =>
      intro b
      simp only [nmG]
      split <;> exact ⟨_,_,rfl⟩
    | cons f r ih =>
      intro b
      simp only [nmG]
      split
      · split
        · exact ⟨_,_,rfl⟩
        · exact ih _
      · exact ih _
  unfold leafD at h
  split at h
  · cases h; exact ⟨_,_,rfl⟩
  split at h
  · cases h
    cases figN z with
    | zero=>exact ⟨_,_,rfl⟩
    | succ n=>exact ⟨_,_,rfl⟩
  split at h
  · cases h; exact nm st 0
  · cases h
theorem FmD.monoX {C x p q:Addr} {H H':Hp} {f:Fo} {xs:List V} (h:FmD K C H x p f) (hq:H q=some (.lst xs)) (ne:p≠q) (s:SameX q H H'):FmD K C H' x p f:=by
  obtain ⟨⟨ps,F,r⟩,hb⟩:=h
  obtain ⟨dx,d,hx,hd⟩:=F.obj
  refine ⟨⟨ps,⟨⟨dx,d,s _ _ (fun e=>by rw [e,hq] at hx; cases hx) hx,?_⟩,s _ _ ne F.parts⟩,r.monoX s fun vs z=>by rw [hq] at z; cases z⟩,hb⟩
  rcases hd with h | h
  · exact .inl (h.imp (fun h=>s _ _ (fun e=>by rw [e,hq] at h; cases h) h) fun ⟨o,h⟩=>⟨o,s _ _ (fun e=>by rw [e,hq] at h; cases h) h⟩)
  · exact .inr h
abbrev Ent:=Addr×Addr×Fo
structure Stk (K:PySem.W.Frag) (C:Addr) (H0 H:Hp) (pf pw:Addr) (st:List Ent):Prop where
  fms:∀ q∈st,FmD K C H q.1 q.2.1 q.2.2
  nd:(st.map (·.2.1)).Nodup
  fr:∀ q∈st,H0 q.2.1=none
  npf:∀ q∈st,q.2.1≠pf
  npw:∀ q∈st,q.2.1≠pw
  le:∀ q∈st,q.2.2.parts.length≤q.2.2.due.length∧q.2.2.due.length≤4∧q.2.2.word.length≤1000
section
variable {C pf pw:Addr} {H0 H H':Hp} {st:List Ent}
theorem Stk.mono (S:Stk K C H0 H pf pw st) (s:Same H H'):Stk K C H0 H' pf pw st:=⟨fun q h=>(S.fms q h).mono s,S.nd,S.fr,S.npf,S.npw,S.le⟩
theorem Stk.at_pf {xs:List V} (S:Stk K C H0 H pf pw st) (hq:H pf=some (.lst xs)) (s:SameX pf H H'):Stk K C H0 H' pf pw st:=⟨fun q h=>(S.fms q h).monoX hq (S.npf q h) s,S.nd,S.fr,S.npf,S.npw,S.le⟩
theorem Stk.tail {q:Ent} (S:Stk K C H0 H pf pw (q::st)):Stk K C H0 H pf pw st :=
  ⟨fun q h=>S.fms q (List.mem_cons_of_mem _ h),(List.nodup_cons.mp S.nd).2,fun q h=>S.fr q (List.mem_cons_of_mem _ h),fun q h=>S.npf q (List.mem_cons_of_mem _ h),fun q h=>S.npw q (List.mem_cons_of_mem _ h),fun q h=>S.le q (List.mem_cons_of_mem _ h)⟩
theorem Stk.take {x p a:Addr} {fo:Fo} {d:D} {ps:List V} (S:Stk K C H0 H pf pw ((x,p,fo)::st)) (F:Fm K C H x (.str fo.word) (nmV fo.name) (fo.due.map V.str) p ps) (rp:Reps H fo.parts ps) (rd:Rep H d (.ref a)) (lt:fo.parts.length<fo.due.length) (hp:H' p=some (.lst (ps++[.ref a]))) (s:SameX p H H') :
    Stk K C H0 H' pf pw ((x,p,{ fo with parts:=fo.parts++[d] })::st):=by
  have nt:∀ vs,H p≠some (.tup vs):=fun vs z=>by rw [F.parts] at z; cases z
  obtain ⟨dx,d0,hx,hd⟩:=id F.obj
  have nxp:x≠p:=fun e=>by rw [e,F.parts] at hx; cases hx
  refine ⟨fun q h=>?_,S.nd,fun q h=>?_,fun q h=>?_,fun q h=>?_,fun q h=>?_⟩
  · rcases List.mem_cons.mp h with rfl | h
    · refine ⟨⟨ps++[.ref a],⟨⟨dx,d0,s _ _ nxp hx,?_⟩,hp⟩,(rp.monoX s nt).snoc (rd.monoX s nt)⟩,(S.fms (x,p,fo) List.mem_cons_self).2⟩
      rcases hd with h | h
      · exact .inl (h.imp (fun h=>s _ _ (fun e=>by rw [e,F.parts] at h; cases h) h) fun ⟨o,h⟩=>⟨o,s _ _ (fun e=>by rw [e,F.parts] at h; cases h) h⟩)
      · exact .inr h
    · have n:=(List.nodup_cons.mp S.nd).1
      exact (S.fms q (List.mem_cons_of_mem _ h)).monoX F.parts (fun e=>n (List.mem_map.mpr ⟨q,h,e⟩)) s
  · rcases List.mem_cons.mp h with rfl | h
    · exact S.fr (x,p,fo) List.mem_cons_self
    · exact S.fr q (List.mem_cons_of_mem _ h)
  · rcases List.mem_cons.mp h with rfl | h
    · exact S.npf (x,p,fo) List.mem_cons_self
    · exact S.npf q (List.mem_cons_of_mem _ h)
  · rcases List.mem_cons.mp h with rfl | h
    · exact S.npw (x,p,fo) List.mem_cons_self
    · exact S.npw q (List.mem_cons_of_mem _ h)
  · rcases List.mem_cons.mp h with rfl | h
    · have:=S.le (x,p,fo) List.mem_cons_self
      refine ⟨?_,this.2⟩
      show (fo.parts++[d]).length≤fo.due.length
      rw [List.length_append,List.length_singleton]
      exact lt
    · exact S.le q (List.mem_cons_of_mem _ h)
theorem take_ok {x p N:Addr} {fo:Fo} {d:D} {v:V} {y:Str} {ds:List D} {Q:VK} {E:XK} (S:Stk K C H0 H pf pw ((x,p,fo)::st)) (rd:Rep H d v) (hd:d=.tup (.str y::ds)) (e1:takeD fo d=none→E (.ref N) none H)
    (q:∀ f':Fo,takeD fo d=some f'→∀ H',Stk K C H0 H' pf pw ((x,p,f')::st)→SameX p H H'→Q .non H'):spTake K C N [.ref x,v] H Q E:=by
  obtain ⟨⟨ps,F,rp⟩,_⟩:=S.fms (x,p,fo) List.mem_cons_self
  dsimp only at F rp
  have hle:=S.le (x,p,fo) List.mem_cons_self
  dsimp only at hle
  subst hd
  obtain ⟨a,us0,rfl,ha,v0,us,rfl,⟨rfl,hy⟩,ru⟩:=id rd
  have hpl:=rp.length
  have hml:(fo.due.map V.str).length=fo.due.length:=List.length_map _
  have get:∀ dd:Str,(fo.due.map V.str)[ps.length]?=some (.str dd)→fo.due[fo.parts.length]?=some dd:=fun dd h=>by
    rw [List.getElem?_map,hpl] at h
    cases e:fo.due[fo.parts.length]? with
    | none=>rw [e] at h; cases h
    | some y=>rw [e] at h; have:=Option.some.inj h; injection this with this; rw [this]
  refine ⟨x,p,a,_,_,fo.due.map V.str,ps,us,y,rfl,F,ha,by omega,fun c=>e1 ?_,fun dd h c=>e1 ?_,fun c=>?_⟩
  · unfold takeD
    rw [List.getElem?_eq_none (by omega)]
  · unfold takeD
    rw [get dd h]
    exact if_neg c
  · have lt:fo.parts.length<fo.due.length:=by omega
    refine ⟨fo.due[fo.parts.length],by rw [hpl,List.getElem?_map,List.getElem?_eq_getElem lt]; rfl,fun c H' h' s=>?_⟩
    have et:takeD fo (.tup (.str y::ds))=some { fo with parts:=fo.parts++[.tup (.str y::ds)] }:=by
      unfold takeD
      rw [List.getElem?_eq_getElem lt]
      exact if_pos c
    exact q _ et H' (S.take F rp rd lt h' s) s
theorem Stk.push {x p:Addr} {fo:Fo} {xs ys:List V} (S:Stk K C H0 H pf pw st) (s:Same H H') (s0:Same H0 H) (hpf:H pf=some (.lst xs)) (hpw:H pw=some (.lst ys)) (hp:H p=none) (F:Fm K C H' x (.str fo.word) (nmV fo.name) (fo.due.map V.str) p []) (e:fo.parts=[]) (few:fo.due.length≤4) (hw:fo.word.length≤1000) (hb:fo.name.isSome=true→∃ i:Int,KTD.datumAt fo.word BO=some (.int i)) :
    Stk K C H0 H' pf pw ((x,p,fo)::st):=by
  have S':=S.mono s
  refine ⟨fun q h=>?_,List.nodup_cons.mpr ⟨fun h=>?_,S.nd⟩,fun q h=>?_,fun q h=>?_,fun q h=>?_,fun q h=>?_⟩
  · rcases List.mem_cons.mp h with rfl | h
    · exact ⟨⟨[],F,by rw [e]; rfl⟩,hb⟩
    · exact S'.fms q h
  · obtain ⟨q,h1,h2⟩:=List.mem_map.mp h
    obtain ⟨⟨ps,F2,_⟩,_⟩:=S.fms q h1
    have:=F2.parts
    rw [h2,hp] at this
    cases this
  · rcases List.mem_cons.mp h with rfl | h
    · exact s0.free hp
    · exact S.fr q h
  · rcases List.mem_cons.mp h with rfl | h
    · exact fun e=>by rw [show pf=p from e.symm,hp] at hpf; cases hpf
    · exact S.npf q h
  · rcases List.mem_cons.mp h with rfl | h
    · exact fun e=>by rw [show pw=p from e.symm,hp] at hpw; cases hpw
    · exact S.npw q h
  · rcases List.mem_cons.mp h with rfl | h
    · exact ⟨by rw [e]; exact Nat.zero_le _,few,hw⟩
    · exact S.le q h
end
def LastI (x:Addr) (dd:Str):List Ent→Prop
  | []=>False
  | [q]=>q.1=x∧q.2.2.due=[dd]
  | _::q::r=>LastI x dd (q::r)
theorem LastI.head {x:Addr} {dd:Str} {q q':Ent} {r:List Ent} (h:LastI x dd (q::r)) (e1:q'.1=q.1) (e2:q'.2.2.due=q.2.2.due):LastI x dd (q'::r):=by
  cases r with
  | nil=>exact ⟨e1.trans h.1,e2.trans h.2⟩
  | cons a r=>exact h
theorem LastI.push {x:Addr} {dd:Str} {q:Ent} {r:List Ent} (h:LastI x dd r):LastI x dd (q::r):=by
  cases r with
  | nil=>exact h.elim
  | cons a r=>exact h
theorem cut2 (xs:List V) (k:Nat) (h:k≤xs.length):cutV xs (some (k:Int)) (some ((k:Int)+2))=(xs.drop k).take 2:=by
  unfold cutV
  rw [show ((k:Nat):Int)+2=((k+2:Nat):Int) by omega,HT.sIx_nat,HT.sIx_nat,Nat.min_eq_left h]
  by_cases h2:k+2≤xs.length
  · rw [Nat.min_eq_left h2,show k+2-k=2 by omega]
  · rw [Nat.min_eq_right (by omega),List.take_of_length_le (by rw [List.length_drop]; omega),List.take_of_length_le (by rw [List.length_drop]; omega)]
theorem at_last (v:V) (l:List V):atI ((v::l).reverse) (-1)=some v:=by
  rw [List.reverse_cons]
  exact atI_last _ _
abbrev grtD (d:D):Bool:=vastD d || bigD d
def spReadG (K:PySem.W.Frag) (N G:Addr):Sp:=fun vs H Q E=>∃ (T dd:Str) (b:Addr) (names:List Str),vs=[.str T,.ref b,.str dd]∧T.length≤99999∧H b=some (.lst (names.map V.str))∧names.length≤1000∧(wdsL T.cps.toList).length≤50000∧(∀ z∈wdsL T.cps.toList,1≤z.length∧z.length≤1000) ∧
  (readD names dd ((wdsL T.cps.toList).map tx)=none→∀ H',Same H H'→E (.ref N) none H')∧∀ d:D,readD names dd ((wdsL T.cps.toList).map tx)=some d→Rb d 60∧(∀ (v:V) (H':Hp),Same H H'→Rep H' d v→grtD d=false→Q v H')∧∀ H',Same H H'→grtD d=true→E (.ref G) none H'
theorem sc_read_thing:FnScope ["text", "names", "due", "words", "whole", "forms", "place", "word", "form", "closed"] ["text", "names", "due"] (defScope s_read_thing):=⟨rfl,rfl,rfl,by decide +kernel,rfl,by decide +kernel,by decide +kernel⟩
theorem readG_ok (D:Df K mg "read_thing" s_read_thing ["text", "names", "due"]) (M:Mg mg t) (K_Form:FormK K t.Form) (E_NoText:ExcK K t.NoText) (F_words_of:CalP P w K mg CX0 "words_of" 2 ["text"] spWords) (F_Form_init:CalN P w K mg "Form" t.Form 1 ["self", "word", "name", "due"] (spInit t.Form)) (F_Form_is_full:CalM P w K mg CX0 t.Form "is_full" (1) ["self"] (spFull K t.Form)) (F_Form_take:CalM P w K mg (CXo P w) t.Form "take" (2) ["self", "thing"] (spTake K t.Form t.NoText)) (F_Form_closed:CalM P w K mg (CXo P w) t.Form "closed" (2) ["self"] (spClosed K t.Form t.NoText)) (F_form_of:Cal P w K mg (CXo P w) "form_of" (3) ["head"] (spFormOf K t.Form t.NoText)) (F_leaf_of:Cal P w K mg (CXo P w) "leaf_of" (3) ["word", "forms", "names"] (spLeafG K t.Form t.NoText)) (F_bounded:Cal P w K mg (CXo P w) "bounded" (64) ["thing"] (spBounded t.Great 60)) :
    CalP P w K mg (CXo P w) "read_thing" 66 ["text", "names", "due"] (spReadG K t.NoText t.Great):=by
  refine D.okPG sc_read_thing (fun vs H Q E h=>?_) (fun base f cdv A outer s H vs Q E hr h=>?_)
  · obtain ⟨T,dd,b,names,rfl,_⟩:=h
    rfl
  obtain ⟨T,dd,b,names,rfl,hT,hb,hnl,hw1,hw2,qe,q⟩:=h
  refine ⟨_,(pssp_cons (psp_set (i:=3) sc_read_thing.nd rfl (by first | exact Or.inl rfl | exact Or.inr rfl) (pep_fn F_words_of (hr.mono (by omega)) rfl pass0 (pa_cons (pv 0) pa_nil)))
      (pssp_cons (ps_p (ps_set (i:=4) sc_read_thing.nd rfl (by first | exact Or.inl rfl | exact Or.inr rfl) (pe_mkC F_Form_init (hr.mono (by omega)) rfl pass0 (pa_cons pe_str (pa_cons pe_non (pa_cons (pe_tup (pa_cons (pv 2) pa_nil)) pa_nil))))))
      (pssp_cons (ps_p (ps_set (i:=5) sc_read_thing.nd rfl (by first | exact Or.inl rfl | exact Or.inr rfl) (pe_lst (pa_cons (pv 4) pa_nil))))
      (pssp_cons (ps_p (ps_set (i:=6) sc_read_thing.nd rfl (by first | exact Or.inl rfl | exact Or.inr rfl) pe_int))
      (pssp_cons (ps_p (ps_while own_o (pt_cmpR op_lt (pv 6) (pe_callB call_len_seq rfl M.n_len bt_len (pa_cons (pv 3) pa_nil)) (nomark _)) (pss_cons (ps_set (i:=7) sc_read_thing.nd rfl (by first | exact Or.inl rfl | exact Or.inr rfl) (pe_ix ix_list (pv 3) (pv 6) (fun _ _=>rfl)))
      (pss_cons (ps_aug (i:=6) sc_read_thing.nd rfl (by first | exact Or.inl rfl | exact Or.inr rfl) pe_int ip_add)
      (pss_one (ps_if (pt_cmpR op_eq (pv 7) pe_str (nomark _)) (pss_cons (ps_set (i:=8) sc_read_thing.nd rfl (by first | exact Or.inl rfl | exact Or.inr rfl) (pe_fn F_form_of (hr.mono (by omega)) rfl passes_o (pa_cons (pe_slice sl_list (pv 3) (po_some (pv 6)) (po_some (pe_op op_add (pv 6) pe_int))) pa_nil)))
      (pss_cons (ps_expr (pe_bm PySem.F.plainAttrs_list PySem.F.slot_list_append PySem.F.type_list_append mt_append (pv 5) (pa_cons (pv 8) pa_nil)))
      (pss_one (ps_aug (i:=6) sc_read_thing.nd rfl (by first | exact Or.inl rfl | exact Or.inr rfl) (pe_ifExp (pt_cmpR op_isN (pe_fld (pv 8) rfl) pe_non (nomark _)) pe_int pe_int) ip_add)))) (pss_one (ps_if (pt_cmpR op_eq (pv 7) pe_str (nomark _)) (pss_cons (ps_if (pt_cmpR op_eq (pe_callB call_len_seq rfl M.n_len bt_len (pa_cons (pv 5) pa_nil)) pe_int (nomark _)) (pss_one (ps_raise (G:=(fun H'=>E (.ref t.NoText) none H')) E_NoText M.g_NoText (pa_cons pe_str pa_nil) (fun pins σ H s e h' I m q=>xe_made I m q))) pss_nil)
      (pss_cons (ps_set (i:=9) sc_read_thing.nd rfl (by first | exact Or.inl rfl | exact Or.inr rfl) (pe_mC0 F_Form_closed K_Form.cls (hr.mono (by omega)) passes_o (pe_bm0 PySem.F.plainAttrs_list PySem.F.slot_list_pop PySem.F.type_list_pop mt_pop (pv 5))))
      (pss_one (ps_expr (pe_mC F_Form_take K_Form.cls (hr.mono (by omega)) passes_o (pe_ix ix_list (pv 5) (pe_un un_neg pe_int) (fun _ _=>rfl)) (pa_cons (pv 9) pa_nil)))))) (pss_one (ps_expr (pe_mC F_Form_take K_Form.cls (hr.mono (by omega)) passes_o (pe_ix ix_list (pv 5) (pe_un un_neg pe_int) (fun _ _=>rfl)) (pa_cons (pe_fn F_leaf_of (hr.mono (by omega)) rfl passes_o (pa_cons (pv 7) (pa_cons (pv 5) (pa_cons (pv 1) pa_nil)))) pa_nil))))))))))))
      (pssp_cons (ps_p (ps_if (L2.PW.pt (pw_or (pt_cmpR op_gt (pe_callB call_len_seq rfl M.n_len bt_len (pa_cons (pv 5) pa_nil)) pe_int (nomark _)) (pw_or1 (pt_not (pt_val (pe_mC0 F_Form_is_full K_Form.cls (hr.mono (by omega)) pass0 (pv 4))))))) (pss_one (ps_raise (G:=(fun H'=>E (.ref t.NoText) none H')) E_NoText M.g_NoText (pa_cons pe_str pa_nil) (fun pins σ H s e h' I m q=>xe_made I m q))) pss_nil))
      (pssp_one (ps_p (ps_ret (pe_fn F_bounded (hr.mono (by omega)) rfl passes_o (pa_cons (pe_ix ix_list (pe_fld (pv 4) rfl) pe_int (fun _ _=>rfl)) pa_nil))))))))))),?_⟩
  try dsimp only [cxK,cxK2]
  refine let7 ?_
  intro _ _ _ _ _ _ _
  refine ⟨_,rfl,T,rfl,(by omega),fun pw H1 e1 s1 hpw=>?_⟩
  have ews:(wdsL T.cps.toList).map (fun w=>V.str (tx w))=((wdsL T.cps.toList).map tx).map V.str:=by rw [List.map_map]; rfl
  rw [ews] at hpw
  have hw3:∀ z∈(wdsL T.cps.toList).map tx,1≤z.length∧z.length≤1000:=fun z h=>by
    obtain ⟨l,h1,rfl⟩:=List.mem_map.mp h
    have:=hw2 l h1
    rw [tx_len]
    exact this
  have hw4:((wdsL T.cps.toList).map tx).length≤50000:=by rw [List.length_map]; exact hw1
  clear ews hw1 hw2
  generalize (wdsL T.cps.toList).map tx=ws at hpw hw3 hw4 qe q
  refine ⟨_,rfl,(by show 1≤sizeLine; decide),fun pd hpd x dx hx hdx nxd=>?_⟩
  have t2:=same_new hpd (.tup [V.str dd])
  have hpd2:(upd H1 pd (.tup [V.str dd])) pd=some (.tup [V.str dd]):=upd_same
  generalize upd H1 pd (.tup [V.str dd])=H2 at t2 hpd2 hx hdx ⊢
  refine ⟨x,dx,.str "",.non,.ref pd,rfl,upd_same,fun p H3 hp npx hp3 hx3 keep=>⟨rfl,?_⟩⟩
  have s23:Same H2 H3:=fun b o h=>by
    have n1:b≠x:=ne_of_none h hx
    have n2:b≠dx:=ne_of_none h hdx
    exact keep b o n1 (by rw [upd_ne n1,upd_ne n2]; exact h)
  have hp0:H2 p=none:=by
    rw [upd_ne npx] at hp
    by_cases e:p=dx
    · rw [e]; exact hdx
    · rw [upd_ne e] at hp; exact hp
  clear hp keep
  have s02:=s1.trans t2
  have s03:=s02.trans s23
  have hpw3:=s23 _ _ (t2 _ _ hpw)
  clear hx hdx nxd
  refine ⟨_,rfl,(by show 1≤sizeLine; decide),fun pf hpf=>?_⟩
  have t4:=same_new hpf (.lst [V.ref x])
  have hpf4:(upd H3 pf (.lst [V.ref x])) pf=some (.lst [V.ref x]):=upd_same
  have s04:=s03.trans t4
  have hpw4:=t4 _ _ hpw3
  have hpf0:H pf=none:=s03.free hpf
  have npfw:pw≠pf:=fun e=>by rw [e,hpf] at hpw3; cases hpw3
  have S4:Stk K t.Form H (upd H3 pf (.lst [V.ref x])) pf pw [(x,p,fo0 dd)]:=by
    refine ⟨fun q h=>?_,by simp,fun q h=>?_,fun q h=>?_,fun q h=>?_,fun q h=>?_⟩
    all_goals (rw [List.mem_singleton] at h; subst h)
    · exact ⟨⟨[],⟨⟨dx,pd,t4 _ _ hx3,SqT.of (t4 _ _ (s23 _ _ hpd2))⟩,t4 _ _ hp3⟩,rfl⟩,fun z=>(nomatch z)⟩
    · exact s02.free hp0
    · exact fun e=>by rw [← show p=pf from e,hp3] at hpf; cases hpf
    · exact fun e=>by have:=t2 _ _ hpw; rw [← show p=pw from e,hp0] at this; cases this
    · exact ⟨Nat.zero_le _,by show 1≤4; decide,by show (Str.ofString "").length≤1000; decide +kernel⟩
  generalize upd H3 pf (.lst [V.ref x])=H4 at hpf4 s04 hpw4 S4 ⊢
  clear t4 hpf hx3 hp3 hpd2 hpw3 s03 s02 hpw hp0 t2 hpd s23 s1
  let Iw:Nat→L2.St→Hp→Prop:=fun m σ' H'=>∃ (k:Nat) (st:List Ent) (wv fv cv:Option V),σ'=[some (.str T),some (.ref b),some (.str dd),some (.ref pw),some (.ref x),some (.ref pf),some (.int (k:Nat)),wv,fv,cv]∧m=ws.length-k∧k≤ws.length∧Stk K t.Form H H' pf pw st∧H' pf=some (.lst ((st.map fun q=>V.ref q.1).reverse))∧H' pw=some (.lst (ws.map V.str))∧Same H H'∧LastI x dd st∧st.length≤k+1 ∧
    rdG names ws.length (ws.drop k) (st.map (·.2.2))=rdG names ws.length ws [fo0 dd]
  refine ⟨Iw,⟨_,0,[(x,p,fo0 dd)],none,none,none,rfl,rfl,Nat.zero_le _,S4,hpf4,hpw4,s04,⟨rfl,rfl⟩,by simp,rfl⟩,?_⟩
  clear S4 hpf4 hpw4 s04
  rintro m σ' H5 ⟨k,st,wv,fv,cv,rfl,rfl,hk,S,hpf5,hpw5,s5,hlast,hsl,hrd⟩
  refine ⟨_,rfl,_,rfl,pw,_,rfl,.inl (SqL.of hpw5),_,_,rfl,rfl,_,rfl,?_⟩
  have hwl:(ws.map V.str).length=ws.length:=List.length_map _
  by_cases hkl:k<ws.length
  · refine ite2 (fun _=>?_) (fun c=>absurd (decide_eq_true (by rw [hwl]; omega)) c)
    refine ⟨fun σ' H'=>∃ m',m'<ws.length-k∧Iw m' σ' H',fun σ' H' h=>h,?_⟩
    obtain ⟨z,hz⟩:∃ z,ws[k]?=some z:=⟨ws[k],List.getElem?_eq_getElem hkl⟩
    have hzm:z∈ws:=List.mem_of_getElem? hz
    have hdk:ws.drop k=z::ws.drop (k+1):=by
      rw [List.drop_eq_getElem_cons hkl]
      rw [List.getElem?_eq_getElem hkl] at hz
      rw [Option.some.inj hz]
    obtain ⟨n,hn⟩:∃ n,ws.length=n+1:=⟨ws.length-1,by omega⟩
    have fuel:∀ (ws':List Str) (st':List Fo),ws'.length≤n→rdG names ws.length ws' st'=rdG names n ws' st':=fun ws' st' h=>rd_fuel names _ _ _ _ (by omega) h
    rw [hdk] at hrd
    have hrd:rdG names (n+1) (z::ws.drop (k+1)) (st.map (·.2.2))=rdG names ws.length ws [fo0 dd]:=by rw [← hn]; exact hrd
    have hdl:(ws.drop (k+1)).length≤n:=by rw [List.length_drop]; omega
    generalize hR:rdG names ws.length ws [fo0 dd]=R at hrd
    have qe':R=none→∀ H',Same H H'→E (.ref t.NoText) none H':=fun e=>qe (by unfold readD; rw [hR,e]; rfl)
    refine ⟨_,rfl,_,rfl,pw,_,_,_,rfl,rfl,SqL.of hpw5,atI_nat (j:=k) (by rw [List.getElem?_map,hz]; rfl),?_⟩
    refine ⟨_,rfl,_,_,rfl,rfl,?_⟩
    have ez:∀ y:Str,decide (V.str z=V.str y)=decide (z=y):=fun y=>by
      by_cases h:z=y
      · rw [h]; simp
      · rw [decide_eq_false h]
        exact decide_eq_false fun q=>h (by injection q)
    refine ⟨_,rfl,rfl,_,rfl,?_⟩
    rw [ez]
    simp only [rdG] at hrd
    by_cases c1:z = "("
    · rw [if_pos c1] at hrd
      rw [decide_eq_true c1]
      refine iteT ?_
      refine ⟨_,rfl,_,rfl,((k+1:Nat):Int),rfl,_,rfl,_,_,rfl,rfl,((k+1:Nat):Int)+2,rfl,pw,_,rfl,SqL.of hpw5,fun ph hph=>?_⟩
      rw [cut2 _ _ (by rw [hwl]; omega),← List.map_drop,← List.map_take]
      have t6:=same_new hph (.lst (((ws.drop (k+1)).take 2).map V.str))
      have hph6:(upd H5 ph (.lst (((ws.drop (k+1)).take 2).map V.str))) ph=some (.lst (((ws.drop (k+1)).take 2).map V.str)):=upd_same
      generalize upd H5 ph (.lst (((ws.drop (k+1)).take 2).map V.str))=H6 at t6 hph6 ⊢
      have s6:=s5.trans t6
      refine ⟨ph,_,rfl,hph6,by rw [List.length_take]; omega,fun y hy=>(hw3 y (List.mem_of_mem_drop (List.mem_of_mem_take hy))).2,fun e H7 s7=>qe' ?_ H7 (s6.trans s7),fun fo e xn pn H7 s7 hx7 hp7 nxp7 F7=>?_⟩
      · rw [e] at hrd
        exact hrd.symm
      rw [e] at hrd
      have hrd:rdG names n ((ws.drop (k+1)).drop (if fo.name=none then 1 else 2)) (fo::st.map (·.2.2))=R:=hrd
      obtain ⟨e1,e2,e3,e4,e5⟩:=form_facts e
      have s67:=t6.trans s7
      have hwo:fo.word.length≤1000:=by
        rw [e5]
        unfold foW
        cases hh:(ws.drop (k+1)).take 2 with
        | nil=>decide +kernel
        | cons y l=>exact (hw3 y (List.mem_of_mem_drop (List.mem_of_mem_take (hh ▸ List.mem_cons_self)))).2
      have S7:=S.push (fo:=fo) (x:=xn) (p:=pn) s67 s5 hpf5 hpw5 (t6.free hp7) F7 e1 e2 hwo e3
      have hpf7:=s67 _ _ hpf5
      refine ⟨_,rfl,.inl ⟨rfl,_,SqL.of hpf7⟩,_,rfl,pf,_,_,rfl,rfl,hpf7,(by rw [sizeLine_eq,List.length_reverse,List.length_map]; omega),?_⟩
      have x8:SameX pf H7 (upd H7 pf (.lst ((st.map fun q=>V.ref q.1).reverse++[V.ref xn]))):=SameX.upd _
      have hpf8:(upd H7 pf (.lst ((st.map fun q=>V.ref q.1).reverse++[V.ref xn]))) pf=some (.lst ((st.map fun q=>V.ref q.1).reverse++[V.ref xn])):=upd_same
      generalize upd H7 pf (.lst ((st.map fun q=>V.ref q.1).reverse++[V.ref xn]))=H8 at x8 hpf8 ⊢
      have S8:=S7.at_pf hpf7 x8
      obtain ⟨⟨ps8,F8,_⟩,_⟩:=S8.fms _ List.mem_cons_self
      dsimp only at F8
      obtain ⟨dx8,d8,hx8,hd8⟩:=id F8.obj
      have hpw8:H8 pw=some (.lst (ws.map V.str)):=x8 _ _ npfw (s67 _ _ hpw5)
      have s8:Same H H8:=fun b' o h=>x8 _ _ (ne_of_none h hpf0) (s67 _ _ (s5 _ _ h))
      have hl2:((ws.drop (k+1)).take 2).length≤ws.length-(k+1):=by rw [List.length_take,List.length_drop]; omega
      have fin:∀ c:Nat,c=(if fo.name=none then 1 else 2)→Iw (ws.length-(k+1+c)) [some (.str T),some (.ref b),some (.str dd),some (.ref pw),some (.ref x),some (.ref pf),some (.int ((k+1+c:Nat):Int)),some (.str z),some (.ref xn),cv] H8:=fun c hc=>by
        rw [← hc] at e4 hrd
        refine ⟨k+1+c,(xn,pn,fo)::st,_,_,_,rfl,rfl,by omega,S8,?_,hpw8,s8,hlast.push,by rw [List.length_cons]; omega,?_⟩
        · rw [hpf8,List.map_cons,List.reverse_cons]
        · rw [hR,fuel _ _ (by rw [List.length_drop]; omega),← hrd,List.drop_drop]
          rfl
      refine ⟨_,rfl,_,rfl,xn,t.Form,dx8,_,_,rfl,hx8,K_Form.cls,K_Form.name,rfl,rfl,_,rfl,?_⟩
      cases hnm:fo.name with
      | none=>exact iteT ⟨_,_,rfl,rfl,_,by omega,fin 1 (by rw [hnm,if_pos rfl])⟩
      | some y=>exact iteF ⟨_,_,rfl,rfl,_,by omega,fin 2 (by rw [hnm,if_neg (by simp)])⟩
    rw [if_neg c1] at hrd
    rw [decide_eq_false c1]
    refine iteF ⟨_,rfl,rfl,_,rfl,?_⟩
    rw [ez]
    by_cases c2:z = ")"
    · rw [if_pos c2] at hrd
      rw [decide_eq_true c2]
      refine iteT ?_
      refine ⟨_,rfl,pf,_,rfl,.inl (SqL.of hpf5),rfl,_,rfl,?_⟩
      match st,hlast,hpf5,hrd,S,hsl with
      | [q0],hlast,hpf5,hrd,S,hsl =>
        refine ite2 (fun _=>?_) (fun c=>absurd (decide_eq_true rfl) c)
        exact ⟨by decide,qe' hrd.symm H5 s5⟩
      | (xa,pa,fa)::(xg,pg,fg)::r,hlast,hpf5,hrd,S,hsl =>
        refine ite2 (fun c=>absurd (of_decide_eq_true c) (by intro z; injection z with z; simp at z; omega)) (fun _=>?_)
        have hrd:(if fa.parts.length=fa.due.length then (match takeD fg (clD fa) with | some g'=>rdG names n (ws.drop (k+1)) (g'::r.map (·.2.2)) | none=>none) else none)=R:=hrd
        have er:((xa,pa,fa)::(xg,pg,fg)::r).map (fun q:Ent=>V.ref q.1)=V.ref xa::((xg,pg,fg)::r).map (fun q:Ent=>V.ref q.1):=rfl
        rw [er,List.reverse_cons] at hpf5
        refine ⟨_,rfl,.inl ⟨rfl,_,SqL.of hpf5⟩,pf,_,_,rfl,rfl,hpf5,(by rw [List.length_append,List.length_singleton,Nat.add_sub_cancel,List.getElem?_append_right (Nat.le_refl _),Nat.sub_self]; rfl),?_⟩
        rw [List.dropLast_concat]
        have x6:SameX pf H5 (upd H5 pf (.lst ((((xg,pg,fg)::r).map (fun q:Ent=>V.ref q.1)).reverse))):=SameX.upd _
        have hpf6:(upd H5 pf (.lst ((((xg,pg,fg)::r).map (fun q:Ent=>V.ref q.1)).reverse))) pf=some (.lst ((((xg,pg,fg)::r).map (fun q:Ent=>V.ref q.1)).reverse)):=upd_same
        generalize upd H5 pf (.lst ((((xg,pg,fg)::r).map (fun q:Ent=>V.ref q.1)).reverse))=H6 at x6 hpf6 ⊢
        have S6:=S.at_pf hpf5 x6
        have s6:Same H H6:=fun b' o h=>x6 _ _ (ne_of_none h hpf0) (s5 _ _ h)
        have hpw6:H6 pw=some (.lst (ws.map V.str)):=x6 _ _ npfw hpw5
        obtain ⟨⟨ps6,F6,rp6⟩,_⟩:=S6.fms (xa,pa,fa) List.mem_cons_self
        have hle6:=S6.le (xa,pa,fa) List.mem_cons_self
        dsimp only at F6 rp6 hle6
        have hpl6:=rp6.length
        have hml:(fa.due.map V.str).length=fa.due.length:=List.length_map _
        obtain ⟨dx6,d6,hx6,hd6⟩:=id F6.obj
        refine ⟨xa,dx6,_,rfl,hx6,rfl,xa,pa,_,_,_,ps6,rfl,F6,(by omega),fun c=>qe' ?_ H6 s6,fun c pc H7 hpc s7=>?_⟩
        · rw [if_neg (by omega)] at hrd
          exact hrd.symm
        rw [if_pos (by omega)] at hrd
        have S7:=S6.tail.mono s7
        have rc:Rep H7 (clD fa) (.ref pc):=⟨pc,_,rfl,hpc,_,_,rfl,⟨rfl,hle6.2.2⟩,rp6.mono s7⟩
        obtain ⟨⟨ps7,F7,_⟩,_⟩:=S7.fms (xg,pg,fg) List.mem_cons_self
        dsimp only at F7
        obtain ⟨dx7,d7,hx7,hd7⟩:=id F7.obj
        have s07:=s6.trans s7
        refine ⟨_,rfl,_,rfl,pf,_,_,_,rfl,rfl,SqL.of (s7 _ _ hpf6),at_last _ _,xg,dx7,_,rfl,hx7,rfl,_,rfl,?_⟩
        show spTake K t.Form t.NoText [.ref xg,.ref pc] H7 (fun _ H1=>∃ m',m'<ws.length-k∧Iw m' [some (.str T),some (.ref b),some (.str dd),some (.ref pw),some (.ref x),some (.ref pf),some (.int ((k+1:Nat):Int)),some (.str z),fv,some (.ref pc)] H1) E
        refine take_ok S7 rc rfl (fun e=>qe' ?_ H7 s07) fun g' e H8 S8 x8=>?_
        · rw [e] at hrd
          exact hrd.symm
        rw [e] at hrd
        have hrd:rdG names n (ws.drop (k+1)) (g'::r.map (·.2.2))=R:=hrd
        obtain ⟨_,eg,_⟩:=take_len e
        have npg:=S7.npf (xg,pg,fg) List.mem_cons_self
        have npgw:=S7.npw (xg,pg,fg) List.mem_cons_self
        have hpg0:=S7.fr (xg,pg,fg) List.mem_cons_self
        refine ⟨_,by omega,k+1,(xg,pg,g')::r,_,_,_,rfl,rfl,by omega,S8,x8 _ _ (Ne.symm npg) (s7 _ _ hpf6),x8 _ _ (Ne.symm npgw) (s7 _ _ hpw6),fun b' o h=>x8 _ _ (ne_of_none h hpg0) (s07 _ _ h),LastI.head (q:=(xg,pg,fg)) hlast rfl (by rw [eg]),by simp only [List.length_cons] at hsl ⊢; omega,?_⟩
        rw [hR,fuel _ _ hdl,← hrd]
        rfl
    rw [if_neg c2] at hrd
    rw [decide_eq_false c2]
    refine iteF ?_
    match st,hlast,hpf5,hrd,S,hsl with
    | (xg,pg,fg)::r,hlast,hpf5,hrd,S,hsl =>
      have hrd:(match leafD z names (fg::r.map (·.2.2)) with | some d=>(match takeD fg d with | some f'=>rdG names n (ws.drop (k+1)) (f'::r.map (·.2.2)) | none=>none) | none=>none)=R:=hrd
      obtain ⟨⟨ps5,F5,_⟩,_⟩:=S.fms (xg,pg,fg) List.mem_cons_self
      dsimp only at F5
      obtain ⟨dx5,d5,hx5,hd5⟩:=id F5.obj
      have hwz:=hw3 z hzm
      refine ⟨_,rfl,_,rfl,pf,_,_,_,rfl,rfl,SqL.of hpf5,at_last _ _,xg,dx5,_,rfl,hx5,rfl,_,rfl,_,rfl,_,rfl,pf,b,z,(xg,pg,fg)::r,names,rfl,hpf5,(by omega),S.fms,s5 _ _ hb,hnl,hwz.1,hwz.2,fun e H6 s6=>qe' ?_ H6 (s5.trans s6),fun d e v H6 s6 r6=>?_⟩
      · have e:leafD z names (fg::r.map (·.2.2))=none:=e
        rw [e] at hrd
        exact hrd.symm
      have e:leafD z names (fg::r.map (·.2.2))=some d:=e
      rw [e] at hrd
      have hrd:(match takeD fg d with | some f'=>rdG names n (ws.drop (k+1)) (f'::r.map (·.2.2)) | none=>none)=R:=hrd
      obtain ⟨y,ds,hyd⟩:=leaf_tup e
      have S6:=S.mono s6
      have s06:=s5.trans s6
      show spTake K t.Form t.NoText [.ref xg,v] H6 (fun _ H1=>∃ m',m'<ws.length-k∧Iw m' [some (.str T),some (.ref b),some (.str dd),some (.ref pw),some (.ref x),some (.ref pf),some (.int ((k+1:Nat):Int)),some (.str z),fv,cv] H1) E
      refine take_ok S6 r6 hyd (fun e=>qe' ?_ H6 s06) fun g' e H8 S8 x8=>?_
      · rw [e] at hrd
        exact hrd.symm
      rw [e] at hrd
      have hrd:rdG names n (ws.drop (k+1)) (g'::r.map (·.2.2))=R:=hrd
      obtain ⟨_,eg,_⟩:=take_len e
      have npg:=S6.npf (xg,pg,fg) List.mem_cons_self
      have npgw:=S6.npw (xg,pg,fg) List.mem_cons_self
      have hpg0:=S6.fr (xg,pg,fg) List.mem_cons_self
      refine ⟨_,by omega,k+1,(xg,pg,g')::r,_,_,_,rfl,rfl,by omega,S8,x8 _ _ (Ne.symm npg) (s6 _ _ hpf5),x8 _ _ (Ne.symm npgw) (s6 _ _ hpw5),fun b' o h=>x8 _ _ (ne_of_none h hpg0) (s06 _ _ h),LastI.head (q:=(xg,pg,fg)) hlast rfl (by rw [eg]),by simp only [List.length_cons] at hsl ⊢; omega,?_⟩
      rw [hR,fuel _ _ hdl,← hrd]
      rfl
  · refine ite2 (fun c=>absurd (of_decide_eq_true c) (by rw [hwl]; omega)) (fun _=>?_)
    have hke:k=ws.length:=by omega
    have hR:rdG names ws.length ws [fo0 dd]=some (st.map (·.2.2)):=by
      rw [← hrd,hke,List.drop_length]
      cases ws.length <;> rfl
    refine ⟨_,rfl,pf,_,rfl,.inl (SqL.of hpf5),_,_,rfl,rfl,_,rfl,?_⟩
    match st,hlast,hpf5,hR,S with
    | q0::q1::r,_,hpf5,hR,S =>
      refine ite2 (fun _=>?_) (fun c=>absurd (decide_eq_true (by simp; omega)) c)
      refine iteT ⟨by decide,qe ?_ H5 s5⟩
      unfold readD
      rw [hR]
      rfl
    | [(x',p0,f0)],hlast,hpf5,hR,S =>
      obtain ⟨rfl,hf0⟩:=hlast
      refine ite2 (fun c=>absurd (of_decide_eq_true c) (by simp)) (fun _=>?_)
      obtain ⟨⟨ps,F,rp⟩,_⟩:=S.fms (x',p0,f0) (by simp)
      dsimp only at F rp
      obtain ⟨dx5,d5,hx5,hd5⟩:=id F.obj
      have hpl:=rp.length
      have hle:=S.le (x',p0,f0) (by simp)
      dsimp only at hle
      rw [hf0] at hle F
      refine ⟨_,rfl,x',dx5,_,rfl,hx5,rfl,x',p0,_,_,_,_,rfl,F,_,rfl,?_⟩
      cases hps:f0.parts with
      | nil =>
        rw [hps] at rp hpl
        cases rp
        refine iteT ⟨by decide,qe ?_ H5 s5⟩
        unfold readD
        rw [hR]
        show f0.parts.head?=none
        rw [hps]
        rfl
      | cons d l =>
        rw [hps] at rp hpl hle
        have:l=[]:=by
          cases l with
          | nil=>rfl
          | cons _ _=>simp at hle
        subst this
        obtain ⟨v,vs,rfl,rd,e0⟩:=rp
        cases e0
        obtain ⟨rz,q1,q2⟩:=q d (by unfold readD; rw [hR]; show f0.parts.head?=some d; rw [hps]; rfl)
        refine iteF ⟨_,rfl,x',t.Form,dx5,_,_,rfl,hx5,K_Form.cls,K_Form.parts,rfl,p0,_,_,v,rfl,rfl,SqL.of F.parts,atI_nat (j:=0) rfl,d,v,rfl,rd,rz,fun H6 s6 hv=>q1 v H6 (s5.trans s6) (rd.mono s6) hv,fun H6 s6 hv=>q2 H6 (s5.trans s6) hv⟩
end K55
end
section
set_option maxHeartbeats 4000000
namespace K55
open PySem L2 L3 KM PyProof.Rows
theorem spl_app:∀ (x y:List Nat),spl 32 (x++32::y)=spl 32 x++spl 32 y
  | [],y=>by
    rw [List.nil_append]
    show (if 32=32 then []::spl 32 y else _)=_
    rw [if_pos rfl]
    rfl
  | a :: x, y => by
    have ih:=spl_app x y
    rw [List.cons_append]
    by_cases h:a=32
    · rw [spl,if_pos h,ih,spl,if_pos h]; rfl
    · rw [spl,if_neg h,ih,spl,if_neg h]
      obtain ⟨w,ws,e⟩:=spl_ne 32 x
      rw [e]
      rfl
theorem wds_sp (x y:List Nat):wdsL (x++32::y)=wdsL x++wdsL y:=by
  unfold wdsL
  rw [List.flatMap_append,List.flatMap_cons,show sg 32=[32] from rfl,List.singleton_append,spl_app,List.filter_append]
theorem wds_br (c:Nat) (h:c=40∨c=41) (x y:List Nat):wdsL (x++c::y)=wdsL x++[c]::wdsL y:=by
  have e:sg c=[32,c,32]:=by rcases h with rfl | rfl <;> rfl
  have n:32∉[c]:=by rcases h with rfl | rfl <;> decide
  unfold wdsL
  rw [List.flatMap_append,List.flatMap_cons,e,show [32,c,32]++y.flatMap sg=32::([c]++32::y.flatMap sg) from rfl,spl_app,spl_pre n,List.filter_append,List.filter_cons]
  rfl
theorem wds_word {l:List Nat} (h:∀ c∈l,brk c=false) (n:l≠[]):wdsL l=[l]:=by
  have b:∀ c,brk c=false→c≠32∧c≠10∧c≠40∧c≠41:=fun c h=>by
    unfold brk at h
    simp at h
    omega
  have e:l.flatMap sg=l:=by
    clear n
    induction l with
    | nil=>rfl
    | cons a l ih =>
      have:=b a (h a List.mem_cons_self)
      rw [List.flatMap_cons,ih fun c hc=>h c (List.mem_cons_of_mem _ hc)]
      unfold sg
      rw [if_neg this.2.2.1,if_neg this.2.2.2,if_neg this.2.1]
      rfl
  unfold wdsL
  rw [e,spl_alone fun m=>(b 32 (h 32 m)).1 rfl]
  cases l with
  | nil=>exact absurd rfl n
  | cons a l=>rfl
abbrev isNm (z:Str):Bool:=nameD (.str z)
theorem nm_let {z:Str} (h:isNm z=true):z.cps.toList≠[]∧z.length≤12∧rows18.lookup z=none∧∀ c∈z.cps.toList,letB c=true:=by
  unfold isNm nameD at h
  rw [Bool.and_eq_true,Bool.and_eq_true,Bool.and_eq_true] at h
  refine ⟨fun e=>?_,by have:=of_decide_eq_true h.2.1; omega,by simpa using h.2.2.1,fun c hc=>List.all_eq_true.mp h.2.2.2 c hc⟩
  have:=of_decide_eq_true h.1
  rw [str_len,e] at this
  simp at this
theorem let_rng {c:Nat} (h:letB c=true):97≤c∧c≤122:=by
  unfold letB at h
  rw [StrLaws.found_one,show abc.cps.toList=[97,98,99,100,101,102,103,104,105,106,107,108,109,110,111,112,113,114,115,116,117,118,119,120,121,122] by decide +kernel] at h
  simp at h
  omega
theorem let_brk {c:Nat} (h:letB c=true):brk c=false:=by
  have:=let_rng h
  unfold brk
  simp
  omega
theorem nm_words {z:Str} (h:isNm z=true):wdsL z.cps.toList=[z.cps.toList]:=by
  obtain ⟨n,_,_,hl⟩:=nm_let h
  exact wds_word (fun c hc=>let_brk (hl c hc)) n
def wS (l:List Nat):List Str:=(wdsL l).map tx
def rd (names:List Str) (ws:List Str) (st:List Fo):Option (List Fo):=rdG names ws.length ws st
variable {names ws rest:List Str} {st r:List Fo} {fo go f' g':Fo} {d:D} {z:Str}
theorem rd_open (h:formD (ws.take 2)=some fo):rd names ("(" :: ws) st=rd names (ws.drop (if fo.name=none then 1 else 2)) (fo::st):=by
  unfold rd
  rw [List.length_cons]
  simp only [rdG]
  rw [if_pos trivial,h]
  exact rd_fuel _ _ _ _ _ (by rw [List.length_drop]; omega) (Nat.le_refl _)
theorem rd_close (h:fo.parts.length=fo.due.length) (h2:takeD go (clD fo)=some g'):rd names (")" :: ws) (fo::go::r)=rd names ws (g'::r):=by
  unfold rd
  rw [List.length_cons]
  simp only [rdG]
  rw [if_neg (by decide +kernel),if_pos trivial,if_pos h,h2]
theorem rd_leaf (n1:z ≠ "(") (n2:z ≠ ")") (h:leafD z names (fo::r)=some d) (h2:takeD fo d=some f'):rd names (z::ws) (fo::r)=rd names ws (f'::r):=by
  unfold rd
  rw [List.length_cons]
  simp only [rdG]
  rw [if_neg n1,if_neg n2,h]
  simp only
  rw [h2]
def natD:D:=.tup [.str "nat"]
def zeroD:D:=.tup [.str "zero"]
theorem lf_nat:leafD "nat" names st=some natD:=by unfold leafD; rw [if_pos (by decide +kernel)]; rfl
theorem lf_nm (h:isNm z=true):leafD z names st=some (nmG z names st 0)∧z ≠ "(" ∧ z ≠ ")" := by
  obtain ⟨n,hl,hr,hc⟩:=nm_let h
  have ne:∀ w:Str,(rows18.lookup w).isSome=true∨(∃ c∈w.cps.toList,letB c=false)→z≠w:=fun w hw e=>by
    subst e
    rcases hw with hw | ⟨c,h1,h2⟩
    · rw [hr] at hw; cases hw
    · rw [hc c h1] at h2; cases h2
  have hf:figB z=false:=by
    unfold figB
    have:z.cps.toList.all dgt=false:=by
      cases e:z.cps.toList with
      | nil=>exact absurd e n
      | cons c l =>
        have:=let_rng (hc c (by rw [e]; exact List.mem_cons_self))
        rw [List.all_cons]
        have:dgt c=false:=by unfold dgt; simp; omega
        rw [this,Bool.false_and]
    rw [this,Bool.false_and,Bool.and_false]
  refine ⟨?_,ne _ (.inr ⟨40,by decide +kernel,by decide +kernel⟩),ne _ (.inr ⟨41,by decide +kernel,by decide +kernel⟩)⟩
  unfold leafD
  rw [if_neg ?_,if_neg (by rw [hf]; decide),if_pos h]
  intro m
  simp only [List.mem_cons,List.not_mem_nil,or_false] at m
  rcases m with m | m | m
  all_goals exact ne _ (.inl (by decide +kernel)) m
def tks (ws:List String):List Str:=ws.map Str.ofString
theorem fo_nb {x y:Str} (h1:dues x≠[]) (h2:inT x BO=false) (l:List Str):formD ((x::y::l).take 2)=some ⟨x,none,dues x,[]⟩:=by
  unfold formD
  exact (if_neg h1).trans ((if_pos h2).trans rfl)
theorem fo_nb1 {x:Str} (h1:dues x≠[]) (h2:inT x BO=false):formD ([x].take 2)=some ⟨x,none,dues x,[]⟩:=by
  unfold formD
  exact (if_neg h1).trans ((if_pos h2).trans rfl)
theorem fo_nm {x y:Str} (h1:dues x≠[]) (h2:inT x BO=true) (hy:isNm y=true) (l:List Str):formD ((x::y::l).take 2)=some ⟨x,some y,dues x,[]⟩:=by
  unfold formD
  exact (if_neg h1).trans ((if_neg (show ¬ inT x BO=false by rw [h2]; decide)).trans (if_pos hy))
theorem tk {f:Fo} {dd:Str} (h:f.due[f.parts.length]?=some dd) (e:isKd d=decide (dd = "kind")):takeD f d=some { f with parts:=f.parts++[d] }:=by
  unfold takeD
  rw [h]
  exact if_pos e
def bnds (st:List Fo):List Str:=st.filterMap fun f=>if bndB f=true then f.name else none
theorem nm_eq (z : Str) (names : List Str) : ∀ (st : List Fo) (b : Nat), nmG z names st b = if z ∈ bnds st then .tup [.str "var", .int ((b + (bnds st).idxOf z : Nat) : Int)] else if z ∈ names then .tup [.str "var", .int ((b + ((bnds st).length + names.idxOf z) : Nat) : Int)] else .tup [.str "name", .str z]
  | [],b=>by
    simp only [nmG,bnds,List.filterMap_nil,List.not_mem_nil,if_false,List.length_nil,Nat.zero_add]
  | f :: r, b => by
    simp only [nmG]
    by_cases hb:bndB f=true
    · rw [if_pos hb]
      obtain ⟨y,hy⟩:∃ y,f.name=some y:=by
        unfold bndB at hb
        cases e:f.name with
        | none=>rw [e] at hb; cases hb
        | some y=>exact ⟨y,rfl⟩
      have eb:bnds (f::r)=y::bnds r:=by
        unfold bnds
        rw [List.filterMap_cons,if_pos hb,hy]
      rw [eb,hy]
      by_cases e:y=z
      · subst e
        rw [if_pos rfl,if_pos List.mem_cons_self,List.idxOf_cons_self,Nat.add_zero]
      · rw [if_neg fun q=>e (Option.some.inj q),nm_eq z names r (b+1)]
        have hm:z∈y::bnds r↔z∈bnds r:=⟨fun h=>(List.mem_cons.mp h).elim (fun q=>absurd q.symm e) id,List.mem_cons_of_mem _⟩
        by_cases h1:z∈bnds r
        · rw [if_pos h1,if_pos (hm.mpr h1),List.idxOf_cons,show (y==z)=false by simpa using e,cond_false]
          congr 4
          omega
        · rw [if_neg h1,if_neg fun q=>h1 (hm.mp q),List.length_cons]
          by_cases h2:z∈names
          · rw [if_pos h2,if_pos h2]
            congr 4
            omega
          · rw [if_neg h2,if_neg h2]
    · rw [if_neg hb]
      have eb:bnds (f::r)=bnds r:=by
        unfold bnds
        rw [List.filterMap_cons,if_neg hb]
      rw [eb]
      exact nm_eq z names r b
def dueD (z:Str) (over names:List Str):D:=if z∈over++names then .tup [.str "var",.int (((over++names).idxOf z:Nat):Int)] else .tup [.str "name",.str z]
theorem due_nm (z:Str) (names:List Str) (st:List Fo):nmG z names st 0=dueD z (bnds st) names:=by
  rw [nm_eq]
  unfold dueD
  by_cases h1:z∈bnds st
  · rw [if_pos h1,if_pos (List.mem_append_left _ h1),List.idxOf_append,if_pos h1,Nat.zero_add]
  · rw [if_neg h1]
    by_cases h2:z∈names
    · rw [if_pos h2,if_pos (List.mem_append_right _ h2),List.idxOf_append,if_neg h1,Nat.zero_add,Nat.add_comm]
    · rw [if_neg h2,if_neg fun q=>(List.mem_append.mp q).elim h1 h2]
end K55
end
section
namespace L3
open PySem PySem.Spec PyProof.Rows L2 KM
def cutS (z:Str) (lo hi:Option Int):List Nat:=(z.cps.toList.drop (HT.sIx z.length 0 lo)).take (HT.sIx z.length z.length hi-HT.sIx z.length 0 lo)
theorem slice_ix (lo hi:Option Int) (n:Nat):Builtin.Str.strSliceIndices lo hi 1 n=(List.range (HT.sIx n n hi-HT.sIx n 0 lo)).map (HT.sIx n 0 lo+·):=by
  rw [← sliceRange_one]
  unfold Builtin.Str.strSliceIndices
  obtain ⟨h1,h2,_⟩:=slice_bounds lo hi n
  rw [← h1,← h2]
  simp only [sliceBounds,Option.getD_none,show (1:Int)>0 by decide,if_true]
  cases lo <;> cases hi <;> rfl
def tSlS3 (te:TE) (tl th ts:TO):TE:=fun σ H Q=>te σ H fun x H1=>tl σ H1 fun lo H2=>th σ H2 fun hi H3=>ts σ H3 fun st H4=>∃ z,x=.str z∧z.length≤sizeLine∧st=none∧∀ y:Str,y.cps.toList=cutS z lo hi→Q (.str y) H4
theorem pe_slS3 {X:Cx} {e:Expr} {lo hi st:Option Expr} {p2 pos:Pos} {te:TE} {tl th ts:TO} (he:PE X e te) (hl:PO X lo tl) (hu:PO X hi th) (ht:PO X st ts)
    (hb:∀ o i,∃ ops,subscripted (.Slice lo hi st p2) false o i=operate ops (getItem o i):=by intro o i; exact ⟨_,rfl⟩):PE X (.Subscript e (.Slice lo hi st p2) pos) (tSlS3 te tl th ts):=by
  intro pins s σ H Q I h
  refine Subscript_ (thn (he pins s σ H _ I h) fun v s1 ⟨x,H1,I1,r1,q1⟩=>?_)
  refine wpAny_Slice (thn (hl pins s1 σ H1 _ I1 q1) fun vl s2 ⟨l,H2,I2,pl,q2⟩=>thn (hu pins s2 σ H2 _ I2 q2) fun vu s3 ⟨u,H3,I3,pu,q3⟩=>thn (ht pins s3 σ H3 _ I3 q3) fun vt s4 ⟨t,H4,I4,pt,z,e1,hz,h0,q⟩=>?_)
  subst e1 h0
  obtain ⟨tk,rfl⟩:=r1
  obtain ⟨al,rfl,el⟩:=part_of pl
  obtain ⟨au,rfl,eu⟩:=part_of pu
  obtain ⟨at',rfl,et⟩:=part_of pt
  have I5:Inv X pins σ H4 { s4 with heap:=s4.heap.push { cls:=.type "slice",data:=.fields #[partValue al,partValue au,partValue at'] } }:=I4.kept (t':=s4.toks) fun b ob q=>Heap.get?_push_of_some _ q
  have hk:((at'.map (·.1)).getD 1==0)=false:=by rw [et]; rfl
  show wpAny (model X.prog X.w) X.A (subscriptTail e (.Slice lo hi st p2) (.str z tk) (.ref s4.heap.objs.size)) (EP X pins σ Q) X.xe _
  obtain ⟨ops,hb⟩:=hb (.str z tk) (.ref s4.heap.objs.size)
  refine tail_any (ops:=ops) (T := "str") (typeIs_str _ _ _) PySem.F.slot_str_getitem.lookup (wpAny_getItem_str_slice (l:=al) (u:=au) (st:=at') ⟨_,Heap.get?_push_size _ rfl,rfl,rfl⟩ hk ?_) hb
  have ep:slicePicked z al au at'=(List.range (HT.sIx z.length z.length u-HT.sIx z.length 0 l)).map (HT.sIx z.length 0 l+·):=by
    unfold slicePicked
    rw [el,eu,et]
    exact slice_ix l u z.length
  have fin:∀ y:Str,y.cps.toList=cutS z l u→∀ t' k,EP X pins σ Q (.str y t') { s4 with heap:=s4.heap.push { cls:=.type "slice",data:=.fields #[partValue al,partValue au,partValue at'] },toks:=k }:=fun y hy t' k=>⟨.str y,H4,I5.tok k,⟨t',rfl⟩,q y hy⟩
  have hzl:z.cps.toList.length=z.length:=rfl
  unfold sliceMade
  split
  · rename_i c
    rw [Bool.and_eq_true,ep] at c
    have c2:HT.sIx z.length z.length u-HT.sIx z.length 0 l=z.length:=by simpa using c.2
    have:=HT.sIx_le z.length z.length (Nat.le_refl _) u
    refine fin z ?_ _ _
    unfold cutS
    have a0:HT.sIx z.length 0 l=0∨z.length=0:=by omega
    rw [c2]
    rcases a0 with a0 | a0
    · rw [a0,List.drop_zero,List.take_of_length_le (by rw [hzl]; exact Nat.le_refl _)]
    · have:z.cps.toList=[]:=List.length_eq_zero_iff.mp (by rw [hzl]; exact a0)
      rw [this]
      simp
  · refine ⟨?_,fin _ ?_ _ _⟩
    · refine Nat.le_trans ?_ hz
      show (List.filterMap _ (slicePicked z al au at')).toArray.size≤z.length
      rw [List.size_toArray]
      refine Nat.le_trans (List.length_filterMap_le _ _) ?_
      exact sliceIndicesBy_le _ _ _ (by simpa using hk) z.length
    · show (slicePicked z al au at').filterMap (z.cps[·]?)=_
      rw [ep,pick_run]
      rfl
end L3
end
section
set_option maxHeartbeats 4000000
namespace K55
open PySem L2 L3 KM PyProof.Rows
seal L2.PE L2.PS L2.PSs L2.PT L2.PW L2.PA L2.PG L2.PGs L2.PI L2.PC L2.PO L2.PPs L2.PK L3.PIf L3.PEp L3.PSp L3.PSsp L3.PSg
variable {P:Program} {w:World} {K:PySem.W.Frag} {mg:Str→Option Value} {base:Heap} {t:Adr}
structure Sml (d:D) (k n:Nat):Prop where
  wf:wfG isStrD false d=true
  dp:depth d≤k
  kn:knots d≤n
theorem due_sml {z:Str} {over names:List Str} (h:over.length+names.length≤50):Sml (dueD z over names) 1 1:=by
  unfold dueD
  split
  · rename_i m
    have:(over++names).idxOf z<(over++names).length:=List.idxOf_lt_length_iff.mpr m
    rw [List.length_append] at this
    exact ⟨wf_var (by omega) (by omega),by simp [depth,depthL],by simp [knots,knotsL]⟩
  · exact ⟨wf_name rfl,by simp [depth,depthL],by simp [knots,knotsL]⟩
def spRT (dd:Str) (K:PySem.W.Frag) (N G:Addr):Sp:=fun vs H Q E=>∃ (T:Str) (b:Addr),vs=[.str T,.ref b]∧spReadG K N G [.str T,.ref b,.str dd] H Q E
theorem sc_read_term:FnScope ["text", "names"] ["text", "names"] (defScope s_read_term):=⟨rfl,rfl,rfl,by decide +kernel,rfl,by decide +kernel,by decide +kernel⟩
theorem c_read_term (D:Df K mg "read_term" s_read_term ["text", "names"]) (M:Mg mg t) (F_read_thing:CalP P w K mg (CXo P w) "read_thing" 66 ["text", "names", "due"] (spReadG K t.NoText t.Great)):Cal P w K mg (CXo P w) "read_term" (67) ["text", "names"] (spRT "term" K t.NoText t.Great):=by
  refine D.okX sc_read_term (fun vs H Q E h=>?_) (fun base f cdv A outer s H vs Q E hr h=>?_)
  · obtain ⟨T,b,rfl,_⟩:=h
    rfl
  obtain ⟨T,b,rfl,h⟩:=h
  exact ⟨_,(pss_one (ps_ret (pe_fnc F_read_thing (hr.mono (by omega)) rfl passes_o (pag_cons (pv 0) (pag_cons (pv 1) pag_str))))),⟨_,rfl,_,rfl,h⟩⟩
theorem big {m:Nat} (h:m≤1000):m≤sizeLine:=Nat.le_trans h (by decide)
theorem lapp (a b:Str):(a++b).length=a.length+b.length:=Array.size_append
theorem capp (a b:Str):(a++b).cps.toList=a.cps.toList++b.cps.toList:=by
  show (a.cps++b.cps).toList=_
  exact Array.toList_append
end K55
end
section
set_option maxHeartbeats 4000000
namespace K55
open PySem L2 L3 KM PyProof.Rows
structure Grw (scope:List Str) (k:Bool) (d:D) (ws:List Str):Prop where
  kd:isKd d=k
  wf:wfG isStrD k d=true
  cm:cmpD d=true
  wd:∀ y∈ws,1≤y.length∧y.length≤12
  br:∀ y∈ws,wdsL y.cps.toList=[y.cps.toList]
  rd:∀ (names:List Str) (fo:Fo) (r:List Fo) (f':Fo) (rest:List Str),bnds (fo::r)++names=scope→takeD fo d=some f'→rd names (ws++rest) (fo::r)=rd names rest (f'::r)
theorem grw_leaf {scope:List Str} {k:Bool} {d:D} {z:Str} (h1:isKd d=k) (h2:wfG isStrD k d=true) (h3:cmpD d=true) (h4:1≤z.length∧z.length≤12) (h5:wdsL z.cps.toList=[z.cps.toList]) (n1:z ≠ "(") (n2:z ≠ ")") (h6:∀ (names:List Str) (st:List Fo),bnds st++names=scope→leafD z names st=some d):Grw scope k d [z] :=
  ⟨h1,h2,h3,fun y hy=>by rw [List.mem_singleton.mp hy]; exact h4,fun y hy=>by rw [List.mem_singleton.mp hy]; exact h5,fun names fo r f' rest e ht=>rd_leaf n1 n2 (h6 names _ e) ht⟩
structure Prt (scope:List Str) (x:Str) (bn:Option Str) (ps:List D) (ws:List Str):Prop where
  le:ps.length≤(dues x).length
  wf:∀ (i:Nat) (p:D),ps[i]?=some p→∃ dd:Str,(dues x)[i]?=some dd∧isKd p=decide (dd = "kind")∧wfG isStrD (decide (dd = "kind")) p=true
  cm:cmpL ps=true
  wd:∀ y∈ws,1≤y.length∧y.length≤12
  br:∀ y∈ws,wdsL y.cps.toList=[y.cps.toList]
  rd:∀ (names:List Str) (st:List Fo) (rest:List Str),bnds st++names=scope→rd names (ws++rest) st=rd names rest (⟨x,bn,dues x,ps⟩::st)
def scI (scope:List Str) (x:Str) (bn:Option Str) (i:Nat):List Str:=match bn with
  | some n=>if overV x=.int (i:Nat) then n::scope else scope
  | none=>scope
theorem bnds_top {x:Str} {bn:Option Str} {ps:List D} {st:List Fo} {names scope:List Str} (h:bnds st++names=scope):bnds (⟨x,bn,dues x,ps⟩::st)++names=scI scope x bn ps.length:=by
  cases bn with
  | none =>
    have eb:bnds (⟨x,none,dues x,ps⟩::st)=bnds st:=by
      unfold bnds
      rw [List.filterMap_cons]
      rfl
    rw [eb]
    exact h
  | some n =>
    by_cases c:overV x=.int ((ps.length:Nat):Int)
    · have hb:bndB ⟨x,some n,dues x,ps⟩=true:=by show (true && decide (overV x=.int ((ps.length:Nat):Int)))=true; rw [decide_eq_true c]; rfl
      have eb:bnds (⟨x,some n,dues x,ps⟩::st)=n::bnds st:=by unfold bnds; rw [List.filterMap_cons,if_pos hb]
      rw [eb,List.cons_append,h]
      show _=(if overV x=.int ((ps.length:Nat):Int) then n::scope else scope)
      rw [if_pos c]
    · have hb:¬ bndB ⟨x,some n,dues x,ps⟩=true:=by show ¬ (true && decide (overV x=.int ((ps.length:Nat):Int)))=true; rw [decide_eq_false c]; decide
      have eb:bnds (⟨x,some n,dues x,ps⟩::st)=bnds st:=by unfold bnds; rw [List.filterMap_cons,if_neg hb]
      rw [eb,h]
      show _=(if overV x=.int ((ps.length:Nat):Int) then n::scope else scope)
      rw [if_neg c]
theorem Prt.next {scope : List Str} {x : Str} {bn : Option Str} {ps : List D} {ws ws' : List Str} {k : Bool} {d : D} {dd : Str} (P : Prt scope x bn ps ws) (hd : (dues x)[ps.length]? = some dd) (hk : k = decide (dd = "kind")) (G : Grw (scI scope x bn ps.length) k d ws') : Prt scope x bn (ps ++ [d]) (ws ++ ws') := by
  have lt:ps.length<(dues x).length:=(List.getElem?_eq_some_iff.mp hd).1
  refine ⟨by rw [List.length_append,List.length_singleton]; exact lt,fun i p e=>?_,?_,fun y hy=>?_,fun y hy=>?_,fun names st rest e=>?_⟩
  · by_cases hi:i<ps.length
    · rw [List.getElem?_append_left hi] at e
      exact P.wf i p e
    · rw [List.getElem?_append_right (by omega)] at e
      have h0:i-ps.length=0:=by
        cases h:i-ps.length with
        | zero=>rfl
        | succ n=>rw [h] at e; simp at e
      rw [h0] at e
      cases e
      have hi':i=ps.length:=by omega
      subst hi'
      subst hk
      exact ⟨dd,hd,G.kd,G.wf⟩
  · have ap:∀ (l:List D),cmpL l=true→cmpL (l++[d])=true:=fun l=>by
      induction l with
      | nil=>intro _; show (cmpD d && true)=true; rw [G.cm]; rfl
      | cons a l ih =>
        intro h
        have h:(cmpD a && cmpL l)=true:=h
        rw [Bool.and_eq_true] at h
        show (cmpD a && cmpL (l++[d]))=true
        rw [h.1,ih h.2]
        rfl
    exact ap ps P.cm
  · rcases List.mem_append.mp hy with h | h
    · exact P.wd y h
    · exact G.wd y h
  · rcases List.mem_append.mp hy with h | h
    · exact P.br y h
    · exact G.br y h
  · rw [List.append_assoc,P.rd names st _ e]
    exact G.rd names _ st _ rest (bnds_top e) (tk hd (by rw [G.kd,hk]))
theorem Prt.open0 {scope:List Str} {x:Str} (h1:dues x≠[]) (h2:inT x BO=false) (h3:1≤x.length∧x.length≤12) (h4:wdsL x.cps.toList=[x.cps.toList]):Prt scope x none [] (tks ["("]++[x]):=by
  refine ⟨Nat.zero_le _,fun i p e=>by simp at e,rfl,fun y hy=>?_,fun y hy=>?_,fun names st rest e=>?_⟩
  · simp only [tks,List.map_cons,List.map_nil,List.cons_append,List.nil_append,List.mem_cons,List.not_mem_nil,or_false] at hy
    rcases hy with rfl | rfl
    · exact ⟨by decide +kernel,by decide +kernel⟩
    · exact h3
  · simp only [tks,List.map_cons,List.map_nil,List.cons_append,List.nil_append,List.mem_cons,List.not_mem_nil,or_false] at hy
    rcases hy with rfl | rfl
    · decide +kernel
    · exact h4
  · show K55.rd names ("(" :: x::rest) st=_
    cases rest with
    | nil=>rw [rd_open (fo_nb1 h1 h2)]; rfl
    | cons y l=>rw [rd_open (fo_nb h1 h2 l)]; rfl
theorem Prt.open1 {scope:List Str} {x n:Str} (h1:dues x≠[]) (h2:inT x BO=true) (h3:1≤x.length∧x.length≤12) (h4:wdsL x.cps.toList=[x.cps.toList]) (hn:isNm n=true):Prt scope x (some n) [] (tks ["("]++[x]++[n]):=by
  have hnl:=nm_let hn
  have hn1:1≤n.length:=by
    rw [str_len]
    cases e:n.cps.toList with
    | nil=>exact absurd e hnl.1
    | cons a l=>simp
  refine ⟨Nat.zero_le _,fun i p e=>by simp at e,rfl,fun y hy=>?_,fun y hy=>?_,fun names st rest e=>?_⟩
  · simp only [tks,List.map_cons,List.map_nil,List.cons_append,List.nil_append,List.mem_cons,List.not_mem_nil,or_false] at hy
    rcases hy with rfl | rfl | rfl
    · exact ⟨by decide +kernel,by decide +kernel⟩
    · exact h3
    · exact ⟨hn1,hnl.2.1⟩
  · simp only [tks,List.map_cons,List.map_nil,List.cons_append,List.nil_append,List.mem_cons,List.not_mem_nil,or_false] at hy
    rcases hy with rfl | rfl | rfl
    · decide +kernel
    · exact h4
    · exact nm_words hn
  · show K55.rd names ("(" :: x::n::rest) st=_
    rw [rd_open (fo_nm h1 h2 hn rest)]
    rfl
theorem wfL_of {x:Str}:∀ (cs:List Nat) (ps:List D) (ds:List Str),ds=cs.map (fun c=>if c=107 then Str.ofString "kind" else "term")→(∀ c∈cs,c=107∨c=116)→ps.length=ds.length→(∀ (i:Nat) (p:D),ps[i]?=some p→∃ dd:Str,ds[i]?=some dd∧isKd p=decide (dd = "kind")∧wfG isStrD (decide (dd = "kind")) p=true)→wfL isStrD cs ps=true
  | [],[],_,_,_,_,_=>rfl
  | [],_::_,_,rfl,_,h,_=>by simp at h
  | _::_,[],_,rfl,_,h,_=>by simp at h
  | c :: cs, p :: ps, _, rfl, hc, h, hp => by
    obtain ⟨dd,e1,_,e3⟩:=hp 0 p rfl
    have ih:=wfL_of (x:=x) cs ps _ rfl (fun c h=>hc c (List.mem_cons_of_mem _ h)) (by simpa using h) fun i q e=>hp (i+1) q e
    rw [wfL_cons,ih,Bool.and_true]
    have e1:(if c=107 then Str.ofString "kind" else "term")=dd:=Option.some.inj e1
    unfold dueB
    rcases hc c List.mem_cons_self with rfl | rfl
    · rw [if_pos rfl] at e1 ⊢
      subst e1
      exact e3
    · rw [if_neg (by decide)] at e1
      rw [if_neg (by decide),if_pos rfl]
      subst e1
      exact e3
def frms:List Str:=["all", "some", "same", "fun", "app", "next", "rec", "like", "carry", "never", "pair", "first", "second"]
def kForm (x:Str):Bool:=decide (x∈(["all", "some", "same"]:List Str))
theorem frm_ok:(frms.all fun x=>decide (dues x≠[]) && (decide (x.length≤12) && (decide (1≤x.length) && (decide (wdsL x.cps.toList=[x.cps.toList]) && ((kindW x==kForm x) && ((PyData.str x).canLay0 && (match shapeV x with | .str s=>decide (dues x=s.cps.toList.map (fun c=>if c=107 then Str.ofString "kind" else "term")) && s.cps.toList.all (fun c=>decide (c=107∨c=116)) | _=>false)))))))=true:=by decide +kernel
theorem Prt.close {scope:List Str} {x:Str} {bn:Option Str} {ps:List D} {ws:List Str} (hx:x∈frms) (P:Prt scope x bn ps ws) (hl:ps.length=(dues x).length):Grw scope (kForm x) (.tup (.str x::ps)) (ws++tks [")"]):=by
  have h:=List.all_eq_true.mp frm_ok x hx
  simp only [Bool.and_eq_true] at h
  obtain ⟨h1,h2,h3,h4,h5,h6,h7⟩:=h
  have hkw:kindW x=kForm x:=by simpa using h5
  refine ⟨hkw,?_,?_,fun y hy=>?_,fun y hy=>?_,fun names fo r f' rest e ht=>?_⟩
  · cases es:shapeV x with
    | str s =>
      rw [es] at h7
      rw [Bool.and_eq_true] at h7
      refine wfG_mk es hkw (wfL_of (x:=x) _ _ _ (of_decide_eq_true h7.1) (fun c hc=>of_decide_eq_true (List.all_eq_true.mp h7.2 c hc)) hl P.wf)
    | _=>rw [es] at h7; cases h7
  · show ((PyData.str x).canLay0 && cmpL ps)=true
    rw [h6,P.cm]
    rfl
  · rcases List.mem_append.mp hy with h | h
    · exact P.wd y h
    · have:y = ")" := by simpa [tks] using h
      rw [this]
      exact ⟨by decide +kernel,by decide +kernel⟩
  · rcases List.mem_append.mp hy with h | h
    · exact P.br y h
    · have:y = ")" := by simpa [tks] using h
      rw [this]
      decide +kernel
  · rw [List.append_assoc,P.rd names (fo::r) _ e]
    exact rd_close hl ht
end K55
end
section
set_option maxHeartbeats 4000000
namespace K55
open PySem L2 L3 KM PyProof.Rows
seal L2.PE L2.PS L2.PSs L2.PT L2.PW L2.PA L2.PG L2.PGs L2.PI L2.PC L2.PO L2.PPs L2.PK L3.PIf L3.PEp L3.PSp L3.PSsp L3.PSg
variable {P:Program} {w:World} {K:PySem.W.Frag} {mg:Str→Option Value} {base:Heap} {t:Adr}
structure LfOut (p:Addr) (scope:List Str) (k:Bool) (i left:Int) (H:Hp) (r:Addr) (H':Hp):Prop where
  ex:∃ (q:Addr) (u:V) (d:D) (ws:List Str) (left':Int),SameX p H H'∧H' p=some (.lst [.int i,.int left'])∧0≤left'∧left'≤left∧Grw scope k d ws∧ws.length=1∧depth d≤31∧((knots d:Nat):Int)≤1+(left-left')∧H' r=some (.tup [u,.ref q])∧H' q=some (.lst (ws.map V.str))∧Rep H' d u∧H q=none
theorem nm_lay' {z:Str} (h:isNm z=true):(PyData.str z).canLay0=true:=by
  obtain ⟨_,_,_,hc⟩:=nm_let h
  show (z.cps.all fun c=>decide (c<0x110000))=true
  rw [← Array.all_toList,List.all_eq_true]
  intro c h
  have:=let_rng (hc c h)
  exact decide_eq_true (by omega)
theorem due_cmp' {z:Str} (h:isNm z=true) (scope:List Str):cmpD (dueD z scope [])=true:=by
  unfold dueD
  split
  · show (cmpD (.str "var") && (cmpD (.int _) && true))=true
    rw [show cmpD (.str "var")=true by decide +kernel]
    rfl
  · show (cmpD (.str "name") && (cmpD (.str z) && true))=true
    rw [show cmpD (.str "name")=true by decide +kernel,show cmpD (.str z)=true from nm_lay' h]
    rfl
theorem g_nat {scope:List Str}:Grw scope true natD [Str.ofString "nat"]:=grw_leaf (by show kindW "nat" = true; decide +kernel) wf_nat (by decide +kernel) ⟨by decide +kernel,by decide +kernel⟩ (by decide +kernel) (by decide +kernel) (by decide +kernel) fun names st e=>lf_nat
theorem g_none {scope:List Str}:Grw scope true (.tup [.str "none"]) [Str.ofString "none"]:=grw_leaf (by show kindW "none" = true; decide +kernel) (wfG_mk (w := "none") (s := "") (by decide +kernel) (by decide +kernel) (by rw [show (Str.ofString "").cps.toList=[] by decide +kernel]; rfl)) (by decide +kernel) ⟨by decide +kernel,by decide +kernel⟩ (by decide +kernel) (by decide +kernel) (by decide +kernel) fun names st e=>by unfold leafD; rw [if_pos (by decide +kernel)]
theorem fig_all:((List.range 31).all fun n=>figB (Str.ofString (toString ((n:Nat):Int))) && ((figN (Str.ofString (toString ((n:Nat):Int)))==n) && (decide (Str.ofString (toString ((n:Nat):Int))∉(["nat", "none", "zero", "(", ")"]:List Str)) && (decide (1≤(Str.ofString (toString ((n:Nat):Int))).length) && (decide ((Str.ofString (toString ((n:Nat):Int))).length≤12) && decide (wdsL (Str.ofString (toString ((n:Nat):Int))).cps.toList=[(Str.ofString (toString ((n:Nat):Int))).cps.toList]))))))=true:=by decide +kernel
theorem cnt_cmp:∀ n:Nat,cmpD (cntD n)=true
  | 0=>by decide +kernel
  | n+1=>by
    show ((PyData.str "next").canLay0 && (cmpD (cntD n) && true))=true
    rw [cnt_cmp n]
    decide +kernel
theorem g_fig {scope:List Str} {n:Nat} (hn:n<31):Grw scope false (cntD n) [Str.ofString (toString ((n:Nat):Int))]:=by
  have h:=List.all_eq_true.mp fig_all n (List.mem_range.mpr hn)
  simp only [Bool.and_eq_true,decide_eq_true_eq] at h
  obtain ⟨h1,h2,h3,h4,h5,h6⟩:=h
  have h2:figN (Str.ofString (toString ((n:Nat):Int)))=n:=by simpa using h2
  generalize Str.ofString (toString ((n:Nat):Int))=z at h1 h2 h3 h4 h5 h6 ⊢
  simp only [List.mem_cons,List.not_mem_nil,or_false,not_or] at h3
  refine grw_leaf ?_ (cnt_wf n) (cnt_cmp n) ⟨h4,h5⟩ h6 h3.2.2.2.1 h3.2.2.2.2 fun names st e=>?_
  · cases n with
    | zero=>show kindW "zero" = false; decide +kernel
    | succ n=>show kindW "next" = false; decide +kernel
  · unfold leafD
    rw [if_neg (by simp only [List.mem_cons,List.not_mem_nil,or_false,not_or]; exact ⟨h3.1,h3.2.1,h3.2.2.1⟩),if_pos h1,h2]
theorem due_app (z:Str) {o1 n1 s:List Str} (h:o1++n1=s):dueD z o1 n1=dueD z s []:=by
  unfold dueD
  rw [h,List.append_nil]
theorem g_nm {scope:List Str} {z:Str} (hz:isNm z=true) (hl:scope.length≤50):Grw scope false (dueD z scope []) [z]:=by
  obtain ⟨n,h12,_,_⟩:=nm_let hz
  have h1:1≤z.length:=by
    rw [str_len]
    cases e:z.cps.toList with
    | nil=>exact absurd e n
    | cons a l=>simp
  have sm:Sml (dueD z scope []) 1 1:=due_sml (by simp; exact hl)
  obtain ⟨_,n1,n2⟩:=lf_nm (names:=[]) (st:=[]) hz
  refine grw_leaf ?_ sm.wf (due_cmp' hz scope) ⟨h1,h12⟩ (nm_words hz) n1 n2 fun names st e=>?_
  · unfold dueD
    split
    · show kindW "var" = false; decide +kernel
    · show kindW "name" = false; decide +kernel
  · rw [(lf_nm (names:=names) (st:=st) hz).1,due_nm,due_app z e]
end K55
end
section
set_option maxHeartbeats 4000000
namespace K55
open PySem L2 L3 KM PyProof.Rows
def repL (l:List Nat) (n:Nat):List Nat:=(List.replicate n l).flatten
theorem rep_zero (l:List Nat):repL l 0=[]:=rfl
theorem rep_succ (l:List Nat) (n:Nat):repL l (n+1)=l++repL l n:=by
  unfold repL
  rw [List.replicate_succ,List.flatten_cons]
theorem rep_snoc (l:List Nat):∀ n:Nat,repL l (n+1)=repL l n++l
  | 0=>by rw [rep_succ,rep_zero,List.append_nil,List.nil_append]
  | n+1=>by rw [rep_succ l (n+1),rep_snoc l n,← List.append_assoc,← rep_succ,rep_snoc l n]
theorem rep_round (a i b:List Nat) (n:Nat):repL a (n+1)++i++repL b (n+1)=a++((repL a n++i++repL b n)++b):=by
  rw [rep_succ,rep_snoc]
  simp only [List.append_assoc]
theorem fold_rep (c:Array Nat):∀ (k:Nat) (acc:Array Nat),((List.replicate k c).foldl (·++·) acc).toList=acc.toList++repL c.toList k
  | 0,acc=>by simp [repL]
  | k+1,acc=>by rw [List.replicate_succ,List.foldl_cons,fold_rep c k,rep_succ,Array.toList_append,List.append_assoc]
theorem mul_cps (z:Str) (n:Nat):(Txt.mul z (n:Nat)).cps.toList=repL z.cps.toList n:=by
  unfold Txt.mul
  by_cases h1:((n:Nat):Int)<1
  · rw [if_pos h1,show n=0 by omega]
    rfl
  rw [if_neg h1]
  split
  · rename_i h
    rw [Bool.or_eq_true,beq_iff_eq,beq_iff_eq] at h
    rcases h with h | h
    · rw [show n=1 by omega,rep_succ,rep_zero,List.append_nil]
    · have:z.cps.toList=[]:=by
        have:=str_len z
        rw [h] at this
        exact List.length_eq_zero_iff.mp this.symm
      rw [this]
      unfold repL
      simp
  · show ((List.replicate ((n:Nat):Int).toNat z.cps).foldl (·++·) #[]).toList=_
    rw [fold_rep,show ((n:Nat):Int).toNat=n by omega]
    rfl
theorem wS_sp (x y:List Nat):wS (x++32::y)=wS x++wS y:=by
  unfold wS
  rw [wds_sp,List.map_append]
theorem wS_cl (x:List Nat):wS (x++[41])=wS x++tks [")"]:=by
  unfold wS
  rw [wds_br 41 (.inr rfl),List.map_append]
  congr 1
theorem wS_one {z:Str} (h:wdsL z.cps.toList=[z.cps.toList]):wS z.cps.toList=[z]:=by
  unfold wS
  rw [h]
  rfl
abbrev Tg (scope:List Str) (k:Bool) (d:D) (l:List Nat):Prop:=Grw scope k d (wS l)
abbrev Tp (scope:List Str) (x:Str) (bn:Option Str) (ps:List D) (l:List Nat):Prop:=Prt scope x bn ps (wS l)
theorem Tp.sp {scope:List Str} {x dd:Str} {bn:Option Str} {ps:List D} {l m:List Nat} {k:Bool} {d:D} (P:Tp scope x bn ps l) (hd:(dues x)[ps.length]?=some dd) (hk:k=decide (dd = "kind")) (G:Tg (scI scope x bn ps.length) k d m):Tp scope x bn (ps++[d]) (l++32::m):=by
  unfold Tp
  rw [wS_sp]
  exact Prt.next P hd hk G
def Ln (scope:List Str) (k:Bool) (d:D) (l:List Nat):Prop:=∃ (x:Str) (bn:Option Str) (ps:List D) (l0:List Nat),l=l0++[41]∧x∈frms∧kForm x=k∧Tp scope x bn ps l0∧ps.length=(dues x).length∧d=.tup (.str x::ps)
theorem Ln.tg {scope:List Str} {k:Bool} {d:D} {l:List Nat} (h:Ln scope k d l):Tg scope k d l:=by
  obtain ⟨x,bn,ps,l0,rfl,hx,rfl,P,hl,rfl⟩:=h
  unfold Tg
  rw [wS_cl]
  exact Prt.close hx P hl
theorem ln_all {scope:List Str} {n:Str} {a b:D} {l m:List Nat} (hn:isNm n=true) (h1:Tg scope true a l) (h2:Tg (n::scope) true b m):Ln scope true (.tup [.str "all",a,b]) ([40,97,108,108]++32::n.cps.toList++32::l++32::m++[41]):=by
  refine ⟨"all",some n,[a,b],_,rfl,by decide +kernel,by decide +kernel,?_,(by show 2=(dues "all").length; decide +kernel),rfl⟩
  have P0:Tp scope "all" (some n) [] ([40,97,108,108]++32::n.cps.toList):=by
    unfold Tp
    rw [wS_sp,wS_one (nm_words hn),show wS [40,97,108,108]=tks ["("]++[Str.ofString "all"] by decide +kernel]
    exact Prt.open1 (by decide +kernel) (by decide +kernel) ⟨by decide +kernel,by decide +kernel⟩ (by decide +kernel) hn
  have e0:scI scope "all" (some n) 0=scope:=by show (if overV "all" = .int ((0:Nat):Int) then n::scope else scope)=_; rw [if_neg (by decide +kernel)]
  have e1:scI scope "all" (some n) 1=n::scope:=by show (if overV "all" = .int ((1:Nat):Int) then n::scope else scope)=_; rw [if_pos (by decide +kernel)]
  have P1:=P0.sp (dd := "kind") (by decide +kernel) (by decide +kernel) (k:=true) (d:=a) (m:=l) (by show Tg (scI scope "all" (some n) 0) true a l; rw [e0]; exact h1)
  exact Tp.sp P1 (dd := "kind") (by show (dues "all")[1]?=_; decide +kernel) (by decide +kernel) (k:=true) (d:=b) (m:=m) (by show Tg (scI scope "all" (some n) 1) true b m; rw [e1]; exact h2)
theorem ln_some {scope:List Str} {n:Str} {a b:D} {l m:List Nat} (hn:isNm n=true) (h1:Tg scope true a l) (h2:Tg (n::scope) true b m):Ln scope true (.tup [.str "some",a,b]) ([40,115,111,109,101]++32::n.cps.toList++32::l++32::m++[41]):=by
  refine ⟨"some",some n,[a,b],_,rfl,by decide +kernel,by decide +kernel,?_,(by show 2=(dues "some").length; decide +kernel),rfl⟩
  have P0:Tp scope "some" (some n) [] ([40,115,111,109,101]++32::n.cps.toList):=by
    unfold Tp
    rw [wS_sp,wS_one (nm_words hn),show wS [40,115,111,109,101]=tks ["("]++[Str.ofString "some"] by decide +kernel]
    exact Prt.open1 (by decide +kernel) (by decide +kernel) ⟨by decide +kernel,by decide +kernel⟩ (by decide +kernel) hn
  have e0:scI scope "some" (some n) 0=scope:=by show (if overV "some" = .int ((0:Nat):Int) then n::scope else scope)=_; rw [if_neg (by decide +kernel)]
  have e1:scI scope "some" (some n) 1=n::scope:=by show (if overV "some" = .int ((1:Nat):Int) then n::scope else scope)=_; rw [if_pos (by decide +kernel)]
  have P1:=P0.sp (dd := "kind") (by decide +kernel) (by decide +kernel) (k:=true) (d:=a) (m:=l) (by show Tg (scI scope "some" (some n) 0) true a l; rw [e0]; exact h1)
  exact Tp.sp P1 (dd := "kind") (by show (dues "some")[1]?=_; decide +kernel) (by decide +kernel) (k:=true) (d:=b) (m:=m) (by show Tg (scI scope "some" (some n) 1) true b m; rw [e1]; exact h2)
theorem ln_same {scope:List Str} {a b c:D} {l m i:List Nat} (h1:Tg scope true a l) (h2:Tg scope false b m) (h3:Tg scope false c i):Ln scope true (.tup [.str "same",a,b,c]) ([40,115,97,109,101]++32::l++32::m++32::i++[41]):=by
  refine ⟨"same",none,[a,b,c],_,rfl,by decide +kernel,by decide +kernel,?_,(by show 3=(dues "same").length; decide +kernel),rfl⟩
  have P0:Tp scope "same" none [] [40,115,97,109,101]:=by
    unfold Tp
    rw [show wS [40,115,97,109,101]=tks ["("]++[Str.ofString "same"] by decide +kernel]
    exact Prt.open0 (by decide +kernel) (by decide +kernel) ⟨by decide +kernel,by decide +kernel⟩ (by decide +kernel)
  have P1:=P0.sp (dd := "kind") (by decide +kernel) (by decide +kernel) (k:=true) (d:=a) (m:=l) h1
  have P2:=Tp.sp P1 (dd := "term") (by show (dues "same")[1]?=_; decide +kernel) (by decide +kernel) (k:=false) (d:=b) (m:=m) h2
  exact Tp.sp P2 (dd := "term") (by show (dues "same")[2]?=_; decide +kernel) (by decide +kernel) (k:=false) (d:=c) (m:=i) h3
theorem ln_next {scope:List Str} {a:D} {l:List Nat} (h1:Tg scope false a l):Ln scope false (.tup [.str "next",a]) ([40,110,101,120,116]++32::l++[41]):=by
  refine ⟨"next",none,[a],_,rfl,by decide +kernel,by decide +kernel,?_,(by show 1=(dues "next").length; decide +kernel),rfl⟩
  have P0:Tp scope "next" none [] [40,110,101,120,116]:=by
    unfold Tp
    rw [show wS [40,110,101,120,116]=tks ["("]++[Str.ofString "next"] by decide +kernel]
    exact Prt.open0 (by decide +kernel) (by decide +kernel) ⟨by decide +kernel,by decide +kernel⟩ (by decide +kernel)
  exact P0.sp (dd := "term") (by decide +kernel) (by decide +kernel) (k:=false) (d:=a) (m:=l) h1
end K55
end
section
set_option maxHeartbeats 4000000
namespace K55
open PySem L2 L3 KM PyProof.Rows
abbrev cl (s:String):List Nat:=(Str.ofString s).cps.toList
def noneD:D:=.tup [.str "none"]
theorem tg_nat {scope:List Str}:Tg scope true natD (cl "nat"):=by
  unfold Tg
  rw [wS_one (by decide +kernel)]
  exact g_nat
theorem tg_none {scope:List Str}:Tg scope true noneD (cl "none"):=by
  unfold Tg
  rw [wS_one (by decide +kernel)]
  exact g_none
theorem tg_0 {scope:List Str}:Tg scope false zeroD (cl "0"):=by
  unfold Tg
  rw [wS_one (by decide +kernel)]
  have:=g_fig (scope:=scope) (n:=0) (by decide)
  rw [show Str.ofString (toString ((0:Nat):Int))=Str.ofString "0" by decide +kernel] at this
  exact this
theorem tg_a:Tg ["a"] false (.tup [.str "var",.int 0]) (cl "a"):=by
  unfold Tg
  rw [wS_one (by decide +kernel)]
  have:=g_nm (scope:=["a"]) (z := "a") (by decide +kernel) (by decide)
  rw [show dueD "a" ["a"] []=.tup [.str "var",.int 0] by kernel_rfl] at this
  exact this
def chPre:Nat→Str
  | 0 => "(all b nat "
  | 1 => "(some c "
  | _ => "(all quitelongone "
def chPos:Nat→Str
  | 0 => ")"
  | _ => " none)"
def chD (s:Nat):Nat→D
  | 0=>natD
  | m+1=>if s=0 then .tup [.str "all",natD,chD s m] else if s=1 then .tup [.str "some",chD s m,noneD] else .tup [.str "all",chD s m,noneD]
def chT (s m:Nat):List Nat:=repL (chPre s).cps.toList m++cl "nat" ++ repL (chPos s).cps.toList m
theorem ch_step (s m:Nat):chT s (m+1)=(chPre s).cps.toList++(chT s m++(chPos s).cps.toList):=rep_round _ _ _ _
theorem ch_ln (s:Nat):∀ (m:Nat) (scope:List Str),Tg scope true (chD s m) (chT s m)∧(0<m→Ln scope true (chD s m) (chT s m))
  | 0,scope=>⟨by
      show Tg scope true natD (chT s 0)
      have e:chT s 0=cl "nat" := by unfold chT; rw [rep_zero,rep_zero,List.nil_append,List.append_nil]
      rw [e]
      exact tg_nat,fun h=>absurd h (by decide)⟩
  | m + 1, scope => by
    have ln:Ln scope true (chD s (m+1)) (chT s (m+1)):=by
      rw [ch_step]
      unfold chD
      match s with
      | 0 =>
        rw [if_pos rfl]
        have:=ln_all (n := "b") (by decide +kernel) (tg_nat (scope:=scope)) (ch_ln 0 m ("b" :: scope)).1
        rw [show (chPre 0).cps.toList=[40,97,108,108,32,98,32,110,97,116,32] by decide +kernel,show (chPos 0).cps.toList=[41] by decide +kernel]
        rw [show (Str.ofString "b").cps.toList=[98] by decide +kernel,show cl "nat" = [110,97,116] by decide +kernel] at this
        simpa using this
      | 1 =>
        rw [if_neg (by decide),if_pos rfl]
        have:=ln_some (n := "c") (by decide +kernel) (ch_ln 1 m scope).1 (tg_none (scope := "c" :: scope))
        rw [show (chPre 1).cps.toList=[40,115,111,109,101,32,99,32] by decide +kernel,show (chPos 1).cps.toList=[32,110,111,110,101,41] by decide +kernel]
        rw [show (Str.ofString "c").cps.toList=[99] by decide +kernel,show cl "none" = [110,111,110,101] by decide +kernel] at this
        simpa using this
      | s+2 =>
        rw [if_neg (by omega),if_neg (by omega)]
        have:=ln_all (n := "quitelongone") (by decide +kernel) (ch_ln (s+2) m scope).1 (tg_none (scope := "quitelongone" :: scope))
        rw [show (chPre (s+2)).cps.toList=[40,97,108,108,32]++cl "quitelongone" ++ [32] by show (Str.ofString "(all quitelongone ").cps.toList=_; decide +kernel,show (chPos (s+2)).cps.toList=[32,110,111,110,101,41] by show (Str.ofString " none)").cps.toList=_; decide +kernel]
        rw [show cl "none" = [110,111,110,101] by decide +kernel] at this
        simpa using this
    exact ⟨ln.tg,fun _=>ln⟩
theorem ch_dk (s:Nat):∀ m:Nat,depth (chD s m)=m+1∧knots (chD s m)=2*m+1∧bigD (chD s m)=false
  | 0=>⟨by kernel_rfl,by kernel_rfl,by kernel_rfl⟩
  | m + 1 => by
    obtain ⟨a,b,c⟩:=ch_dk s m
    have hn:depth natD=1∧knots natD=1∧bigD natD=false:=⟨by kernel_rfl,by kernel_rfl,by kernel_rfl⟩
    have ho:depth noneD=1∧knots noneD=1∧bigD noneD=false:=⟨by kernel_rfl,by kernel_rfl,by kernel_rfl⟩
    unfold chD
    split
    · refine ⟨?_,?_,?_⟩
      · simp only [depth,depthL]; omega
      · simp only [knots,knotsL]; omega
      · simp [bigD,bigL,c,hn.2.2]
    split
    · refine ⟨?_,?_,?_⟩
      · simp only [depth,depthL]; omega
      · simp only [knots,knotsL]; omega
      · simp [bigD,bigL,c,ho.2.2]
    · refine ⟨?_,?_,?_⟩
      · simp only [depth,depthL]; omega
      · simp only [knots,knotsL]; omega
      · simp [bigD,bigL,c,ho.2.2]
def nxD (d:D):Nat→D
  | 0=>d
  | m+1=>.tup [.str "next",nxD d m]
def nxT (i:List Nat) (m:Nat):List Nat:=repL (cl "(next ") m++i++repL (cl ")") m
theorem nx_tg {scope:List Str} {d:D} {i:List Nat} (h:Tg scope false d i):∀ m:Nat,Tg scope false (nxD d m) (nxT i m)
  | 0=>by
    have e:nxT i 0=i:=by unfold nxT; rw [rep_zero,rep_zero,List.nil_append,List.append_nil]
    rw [e]
    exact h
  | m+1=>by
    have:=(ln_next (nx_tg h m)).tg
    rw [show nxT i (m+1)=cl "(next " ++ (nxT i m++cl ")") from rep_round _ _ _ _,show cl "(next " = [40,110,101,120,116,32] by decide +kernel,show cl ")" = [41] by decide +kernel]
    simpa [nxD] using this
theorem nx_dk {d:D} (h1:depth d=1) (h2:knots d=1) (h3:bigD d=false):∀ m:Nat,depth (nxD d m)=m+1∧knots (nxD d m)=m+1∧bigD (nxD d m)=false
  | 0=>⟨h1,h2,h3⟩
  | m+1=>by
    obtain ⟨a,b,c⟩:=nx_dk h1 h2 h3 m
    refine ⟨?_,?_,?_⟩
    · simp only [nxD,depth,depthL]; omega
    · simp only [nxD,knots,knotsL]; omega
    · simp [nxD,bigD,bigL,c]
def v0D:D:=.tup [.str "var",.int 0]
end K55
end
section
set_option maxHeartbeats 4000000
namespace K55
open PySem L2 L3 KM PyProof.Rows
def trS:Nat→Str
  | 0 => "nat"
  | 1 => "(same nat 0 0)"
  | _ => "(all b nat nat)"
def trB (s:Nat):D:=if s=0 then natD else if s=1 then .tup [.str "same",natD,zeroD,zeroD] else .tup [.str "all",natD,natD]
def trK (s:Nat):Nat:=if s=0 then 1 else if s=1 then 4 else 3
def trD (s:Nat):Nat→D
  | 0=>trB s
  | m+1=>.tup [.str "some",trD s m,trD s m]
def trT (s:Nat):Nat→List Nat
  | 0=>(trS s).cps.toList
  | m+1=>cl "(some b " ++ trT s m++cl " " ++ trT s m++cl ")"
def trN (s:Nat):Nat→Nat
  | 0=>trK s
  | m+1=>2*trN s m+1
theorem tr_base (s:Nat) (scope:List Str):Tg scope true (trB s) (trS s).cps.toList:=by
  unfold trB
  match s with
  | 0=>exact tg_nat
  | 1 =>
    have:=(ln_same (tg_nat (scope:=scope)) tg_0 tg_0).tg
    rw [show cl "nat" = [110,97,116] by decide +kernel,show cl "0" = [48] by decide +kernel] at this
    rw [if_neg (by decide),if_pos rfl,show (trS 1).cps.toList=[40,115,97,109,101,32,110,97,116,32,48,32,48,41] by decide +kernel]
    exact this
  | s+2 =>
    have:=(ln_all (n := "b") (by decide +kernel) (tg_nat (scope:=scope)) tg_nat).tg
    rw [show cl "nat" = [110,97,116] by decide +kernel,show (Str.ofString "b").cps.toList=[98] by decide +kernel] at this
    rw [if_neg (by omega),if_neg (by omega),show (trS (s+2)).cps.toList=[40,97,108,108,32,98,32,110,97,116,32,110,97,116,41] by show (Str.ofString "(all b nat nat)").cps.toList=_; decide +kernel]
    exact this
theorem tr_ln (s:Nat):∀ (m:Nat) (scope:List Str),Tg scope true (trD s m) (trT s m)∧(0<m→Ln scope true (trD s m) (trT s m))
  | 0,scope=>⟨tr_base s scope,fun h=>absurd h (by decide)⟩
  | m + 1, scope => by
    have ln:Ln scope true (trD s (m+1)) (trT s (m+1)):=by
      have:=ln_some (n := "b") (by decide +kernel) (tr_ln s m scope).1 (tr_ln s m ("b" :: scope)).1
      rw [show (Str.ofString "b").cps.toList=[98] by decide +kernel] at this
      show Ln scope true (trD s (m+1)) (cl "(some b " ++ trT s m++cl " " ++ trT s m++cl ")")
      rw [show cl "(some b " = [40,115,111,109,101,32,98,32] by decide +kernel,show cl " " = [32] by decide +kernel,show cl ")" = [41] by decide +kernel]
      simpa [trD] using this
    exact ⟨ln.tg,fun _=>ln⟩
theorem tr_dk (s:Nat):∀ m:Nat,depth (trD s m)≤m+2∧knots (trD s m)=trN s m∧bigD (trD s m)=false
  | 0 => by
    unfold trD trB trN trK
    match s with
    | 0=>exact ⟨by show depth natD≤2; decide +kernel,by kernel_rfl,by kernel_rfl⟩
    | 1=>exact ⟨by rw [if_neg (by decide),if_pos rfl]; decide +kernel,by kernel_rfl,by kernel_rfl⟩
    | s+2 =>
      rw [if_neg (by omega),if_neg (by omega),if_neg (by omega),if_neg (by omega)]
      exact ⟨by decide +kernel,by kernel_rfl,by kernel_rfl⟩
  | m+1=>by
    obtain ⟨a,b,c⟩:=tr_dk s m
    refine ⟨?_,?_,?_⟩
    · simp only [trD,depth,depthL]; omega
    · simp only [trD,trN,knots,knotsL]; omega
    · simp [trD,bigD,bigL,c]
def vnm (k:Nat):Str:=Str.ofString "v" ++ tx [97+k % 26]++tx [97+k / 26]
def vnames:List Str:=(List.range 106).map vnm
theorem vnames_nm:(vnames.all fun z=>isNm z)=true:=by decide +kernel
def bs:Nat→List Str
  | 0=>vnames
  | o+1 => "b" :: bs o
theorem v_at:((List.range 106).all fun n=>(List.range 4).all fun o=>decide (vnm n∈bs o) && ((bs o).idxOf (vnm n)==n+o))=true:=by decide +kernel
theorem wf_varN {z:Int} (h:0≤z):wfG isStrD false (.tup [.str "var",.int z])=true:=by
  refine wfG_mk (w := "var") (s := "n") (by decide +kernel) (by decide +kernel) ?_
  rw [show (Str.ofString "n").cps.toList=[110] by decide +kernel,wfL_cons]
  simp [dueB,numD,h,wfL]
theorem tg_var {n o:Nat} (hn:n<106) (ho:o<4):Tg (bs o) false (.tup [.str "var",.int ((n+o:Nat):Int)]) (vnm n).cps.toList:=by
  have h:=List.all_eq_true.mp (List.all_eq_true.mp v_at n (List.mem_range.mpr hn)) o (List.mem_range.mpr ho)
  rw [Bool.and_eq_true] at h
  have h1:=of_decide_eq_true h.1
  have h2:(bs o).idxOf (vnm n)=n+o:=by simpa using h.2
  have hz:isNm (vnm n)=true:=List.all_eq_true.mp vnames_nm _ (List.mem_map.mpr ⟨n,List.mem_range.mpr hn,rfl⟩)
  obtain ⟨ne,h12,_,_⟩:=nm_let hz
  have hl:1≤(vnm n).length:=by
    rw [str_len]
    cases e:(vnm n).cps.toList with
    | nil=>exact absurd e ne
    | cons a l=>simp
  obtain ⟨_,n1,n2⟩:=lf_nm (names:=[]) (st:=[]) hz
  unfold Tg
  rw [wS_one (nm_words hz)]
  refine grw_leaf (by show kindW "var" = false; decide +kernel) (wf_varN (by omega)) ?_ ⟨hl,h12⟩ (nm_words hz) n1 n2 fun names st e=>?_
  · show (cmpD (.str "var") && (cmpD (.int ((n+o:Nat):Int)) && true))=true
    have:cmpD (.int ((n+o:Nat):Int))=true:=rfl
    rw [this]
    decide +kernel
  · rw [(lf_nm hz).1,due_nm]
    unfold dueD
    rw [e,if_pos h1,h2]
variable {names:List Str} {k:Bool} {d:D} {l:List Nat}
end K55
end
section
set_option maxHeartbeats 4000000
namespace K55
open PySem L2 L3 KM PyProof.Rows
variable {names scope:List Str} {k:Bool} {a b c d e:D} {l m i j:List Nat} {x n z:Str}
theorem tp0 (h:wS l=tks ["("]++[x]) (h1:dues x≠[]) (h2:inT x BO=false) (h3:1≤x.length∧x.length≤12) (h4:wdsL x.cps.toList=[x.cps.toList]):Tp scope x none [] l:=by
  unfold Tp
  rw [h]
  exact Prt.open0 h1 h2 h3 h4
theorem tp1 (h:wS l=tks ["("]++[x]) (h1:dues x≠[]) (h2:inT x BO=true) (h3:1≤x.length∧x.length≤12) (h4:wdsL x.cps.toList=[x.cps.toList]) (hn:isNm n=true):Tp scope x (some n) [] (l++32::n.cps.toList):=by
  unfold Tp
  rw [wS_sp,wS_one (nm_words hn),h]
  exact Prt.open1 h1 h2 h3 h4 hn
theorem sc0 {q:Nat} (h:overV x=.int (q:Nat)) {p:Nat} (hp:p≠q):scI scope x (some n) p=scope:=by
  show (if overV x=.int ((p:Nat):Int) then n::scope else scope)=_
  rw [h,if_neg (fun h=>by injection h with h; omega)]
theorem sc1 {q:Nat} (h:overV x=.int (q:Nat)):scI scope x (some n) q=n::scope:=by
  show (if overV x=.int ((q:Nat):Int) then n::scope else scope)=_
  rw [h,if_pos rfl]
theorem cl1:cl ")" = [41]:=by decide +kernel
theorem cl2:cl " " = [32]:=by decide +kernel
theorem ln_app (h1:Tg scope false a l) (h2:Tg scope false b m):Ln scope false (.tup [.str "app",a,b]) (cl "(app " ++ l++cl " " ++ m++cl ")"):=by
  refine ⟨"app",none,[a,b],cl "(app" ++ 32::l++32::m,?_,by decide +kernel,by decide +kernel,?_,(by show 2=(dues "app").length; decide +kernel),rfl⟩
  · rw [cl1,cl2,show cl "(app " = cl "(app" ++ [32] by decide +kernel]
    simp
  have P0:Tp scope "app" none [] (cl "(app"):=tp0 (by decide +kernel) (by decide +kernel) (by decide +kernel) ⟨by decide +kernel,by decide +kernel⟩ (by decide +kernel)
  have P1:=P0.sp (dd := "term") (by decide +kernel) (by decide +kernel) (k:=false) (d:=a) (m:=l) h1
  exact Tp.sp P1 (dd := "term") (by show (dues "app")[1]?=_; decide +kernel) (by decide +kernel) (k:=false) (d:=b) (m:=m) h2
theorem ln_nx (h1:Tg scope false a l):Ln scope false (.tup [.str "next",a]) (cl "(next " ++ l++cl ")"):=by
  have:=ln_next h1
  rw [cl1,show cl "(next " = [40,110,101,120,116]++[32] by decide +kernel]
  simpa using this
theorem ln_first (h1:Tg scope false a l):Ln scope false (.tup [.str "first",a]) (cl "(first " ++ l++cl ")"):=by
  refine ⟨"first",none,[a],cl "(first" ++ 32::l,?_,by decide +kernel,by decide +kernel,?_,(by show 1=(dues "first").length; decide +kernel),rfl⟩
  · rw [cl1,show cl "(first " = cl "(first" ++ [32] by decide +kernel]
    simp
  have P0:Tp scope "first" none [] (cl "(first"):=tp0 (by decide +kernel) (by decide +kernel) (by decide +kernel) ⟨by decide +kernel,by decide +kernel⟩ (by decide +kernel)
  exact P0.sp (dd := "term") (by decide +kernel) (by decide +kernel) (k:=false) (d:=a) (m:=l) h1
theorem ln_fun (hn:isNm n=true) (h1:Tg scope true a l) (h2:Tg (n::scope) false b m):Ln scope false (.tup [.str "fun",a,b]) (cl "(fun" ++ 32::n.cps.toList++32::l++32::m++[41]):=by
  refine ⟨"fun",some n,[a,b],_,rfl,by decide +kernel,by decide +kernel,?_,(by show 2=(dues "fun").length; decide +kernel),rfl⟩
  have o:overV "fun" = .int ((1:Nat):Int):=by kernel_rfl
  have P0:Tp scope "fun" (some n) [] (cl "(fun" ++ 32::n.cps.toList):=tp1 (by decide +kernel) (by decide +kernel) (by decide +kernel) ⟨by decide +kernel,by decide +kernel⟩ (by decide +kernel) hn
  have P1:=P0.sp (dd := "kind") (by decide +kernel) (by decide +kernel) (k:=true) (d:=a) (m:=l) (by show Tg (scI scope "fun" (some n) 0) true a l; rw [sc0 o (by decide)]; exact h1)
  exact Tp.sp P1 (dd := "term") (by show (dues "fun")[1]?=_; decide +kernel) (by decide +kernel) (k:=false) (d:=b) (m:=m) (by show Tg (scI scope "fun" (some n) 1) false b m; rw [sc1 o]; exact h2)
theorem ln_fb (h2:Tg ("b" :: scope) false b m):Ln scope false (.tup [.str "fun",natD,b]) (cl "(fun b nat " ++ m++cl ")"):=by
  have:=ln_fun (n := "b") (by decide +kernel) (tg_nat (scope:=scope)) h2
  rw [cl1,show cl "(fun b nat " = cl "(fun" ++ 32::(Str.ofString "b").cps.toList++32::cl "nat" ++ [32] by decide +kernel]
  simpa using this
theorem tg_v (hz:isNm z=true) (h:z∈scope):Tg scope false (.tup [.str "var",.int ((scope.idxOf z:Nat):Int)]) z.cps.toList:=by
  obtain ⟨ne,h12,_,_⟩:=nm_let hz
  have hl:1≤z.length:=by
    rw [str_len]
    cases e:z.cps.toList with
    | nil=>exact absurd e ne
    | cons a l=>simp
  obtain ⟨_,n1,n2⟩:=lf_nm (names:=[]) (st:=[]) hz
  unfold Tg
  rw [wS_one (nm_words hz)]
  refine grw_leaf (by show kindW "var" = false; decide +kernel) (wf_varN (by omega)) ?_ ⟨hl,h12⟩ (nm_words hz) n1 n2 fun names st e=>?_
  · show (cmpD (.str "var") && (cmpD (.int ((scope.idxOf z:Nat):Int)) && true))=true
    have:cmpD (.int ((scope.idxOf z:Nat):Int))=true:=rfl
    rw [this]
    decide +kernel
  · rw [(lf_nm hz).1,due_nm]
    unfold dueD
    rw [e,if_pos h]
theorem idx_rep:∀ m:Nat,(List.replicate m (Str.ofString "b")++[Str.ofString "a"]).idxOf (Str.ofString "a")=m
  | 0=>by decide +kernel
  | m+1=>by
    rw [List.replicate_succ,List.cons_append,List.idxOf_cons,idx_rep m]
    have:(Str.ofString "b" == Str.ofString "a")=false:=by decide +kernel
    rw [this]
    rfl
theorem tg_ab (m:Nat):Tg (List.replicate m (Str.ofString "b")++[Str.ofString "a"]) false (.tup [.str "var",.int ((m:Nat):Int)]) (cl "a"):=by
  have:=tg_v (z := "a") (scope:=List.replicate m (Str.ofString "b")++[Str.ofString "a"]) (by decide +kernel) (by simp)
  rw [idx_rep] at this
  exact this
theorem fig40:((List.range 40).all fun n=>figB (Str.ofString (toString ((n:Nat):Int))) && ((figN (Str.ofString (toString ((n:Nat):Int)))==n) && (decide (Str.ofString (toString ((n:Nat):Int))∉(["nat", "none", "zero", "(", ")"]:List Str)) && (decide (1≤(Str.ofString (toString ((n:Nat):Int))).length) && (decide ((Str.ofString (toString ((n:Nat):Int))).length≤2) && (decide (wdsL (Str.ofString (toString ((n:Nat):Int))).cps.toList=[(Str.ofString (toString ((n:Nat):Int))).cps.toList]) && decide ((Str.ofString (toString ((n:Nat):Int))).cps.toList.getLast?≠some 41)))))))=true:=by decide +kernel
theorem tg_fig {n:Nat} (hn:n<40):Tg scope false (cntD n) (Str.ofString (toString ((n:Nat):Int))).cps.toList∧(Str.ofString (toString ((n:Nat):Int))).cps.toList.getLast?≠some 41∧(Str.ofString (toString ((n:Nat):Int))).length≤2:=by
  have h:=List.all_eq_true.mp fig40 n (List.mem_range.mpr hn)
  simp only [Bool.and_eq_true,decide_eq_true_eq] at h
  obtain ⟨h1,h2,h3,h4,h5,h6,h7⟩:=h
  have h2:figN (Str.ofString (toString ((n:Nat):Int)))=n:=by simpa using h2
  generalize Str.ofString (toString ((n:Nat):Int))=z at h1 h2 h3 h4 h5 h6 h7 ⊢
  simp only [List.mem_cons,List.not_mem_nil,or_false,not_or] at h3
  refine ⟨?_,h7,h5⟩
  unfold Tg
  rw [wS_one h6]
  refine grw_leaf ?_ (cnt_wf n) (cnt_cmp n) ⟨h4,by omega⟩ h6 h3.2.2.2.1 h3.2.2.2.2 fun names st e=>?_
  · cases n with
    | zero=>show kindW "zero" = false; decide +kernel
    | succ n=>show kindW "next" = false; decide +kernel
  · unfold leafD
    rw [if_neg (by simp only [List.mem_cons,List.not_mem_nil,or_false,not_or]; exact ⟨h3.1,h3.2.1,h3.2.2.1⟩),if_pos h1,h2]
def c5P:Nat→Str
  | 0 => "(next "
  | 1 => "(fun b nat "
  | _ => "(first "
def c5D (s:Nat) (d:D):Nat→D
  | 0=>d
  | m+1=>if s=0 then .tup [.str "next",c5D s d m] else if s=1 then .tup [.str "fun",natD,c5D s d m] else .tup [.str "first",c5D s d m]
def c5T (s:Nat) (i:List Nat) (m:Nat):List Nat:=repL (c5P s).cps.toList m++i++repL (cl ")") m
def c5S (s m:Nat) (scope:List Str):List Str:=if s=1 then List.replicate m (Str.ofString "b")++scope else scope
theorem c5_zero (s:Nat):c5T s i 0=i:=by
  unfold c5T
  rw [rep_zero,rep_zero,List.nil_append,List.append_nil]
theorem c5_step (s m:Nat):c5T s i (m+1)=(c5P s).cps.toList++c5T s i m++cl ")" := by
  rw [List.append_assoc]
  exact rep_round _ _ _ _
theorem c5_sc (m:Nat):c5S 1 m ("b" :: scope)=c5S 1 (m+1) scope:=by
  unfold c5S
  rw [if_pos rfl,if_pos rfl,List.replicate_succ',List.append_assoc]
  rfl
theorem c5_ln (s:Nat):∀ (m:Nat) (scope:List Str),Tg (c5S s m scope) false d i→Tg scope false (c5D s d m) (c5T s i m)∧(0<m→Ln scope false (c5D s d m) (c5T s i m))
  | 0,scope,h=>⟨by
      rw [c5_zero]
      have e:c5S s 0 scope=scope:=by unfold c5S; split <;> rfl
      rw [e] at h
      exact h,fun h=>absurd h (by decide)⟩
  | m + 1, scope, h => by
    have ln:Ln scope false (c5D s d (m+1)) (c5T s i (m+1)):=by
      rw [c5_step]
      unfold c5D
      match s,h with
      | 0,h =>
        rw [if_pos rfl]
        exact ln_nx (c5_ln 0 m scope h).1
      | 1,h =>
        rw [if_neg (by decide),if_pos rfl]
        rw [← c5_sc] at h
        exact ln_fb (c5_ln 1 m ("b" :: scope) h).1
      | s+2,h =>
        rw [if_neg (by omega),if_neg (by omega)]
        have e:∀ m,c5S (s+2) m scope=scope:=fun m=>by unfold c5S; rw [if_neg (by omega)]
        rw [e] at h
        exact ln_first (c5_ln (s+2) m scope (by rw [e]; exact h)).1
    exact ⟨ln.tg,fun _=>ln⟩
theorem dk_nat:depth natD=1∧knots natD=1∧bigD natD=false:=⟨by kernel_rfl,by kernel_rfl,by kernel_rfl⟩
theorem c5_dk (s:Nat) (h:1≤depth d):∀ m:Nat,depth (c5D s d m)=m+depth d∧knots (c5D s d m)≤2*m+knots d∧bigD (c5D s d m)=bigD d
  | 0=>⟨by show depth d=_; omega,by show knots d≤_; omega,rfl⟩
  | m + 1 => by
    obtain ⟨a,b,c⟩:=c5_dk s h m
    obtain ⟨n1,n2,n3⟩:=dk_nat
    unfold c5D
    split
    · refine ⟨?_,?_,?_⟩
      · simp only [depth,depthL]; omega
      · simp only [knots,knotsL]; omega
      · simp [bigD,bigL,c]
    split
    · refine ⟨?_,?_,?_⟩
      · simp only [depth,depthL]; omega
      · simp only [knots,knotsL]; omega
      · simp [bigD,bigL,c,n3]
    · refine ⟨?_,?_,?_⟩
      · simp only [depth,depthL]; omega
      · simp only [knots,knotsL]; omega
      · simp [bigD,bigL,c]
def t5D (d:D):Nat→D
  | 0=>d
  | m+1=>.tup [.str "app",t5D d m,t5D d m]
def t5T (i:List Nat):Nat→List Nat
  | 0=>i
  | m+1=>cl "(app " ++ t5T i m++cl " " ++ t5T i m++cl ")"
def t5N (q:Nat):Nat→Nat
  | 0=>q
  | m+1=>2*t5N q m+1
theorem t5_ln (h:Tg scope false d i):∀ m:Nat,Tg scope false (t5D d m) (t5T i m)∧(0<m→Ln scope false (t5D d m) (t5T i m))
  | 0=>⟨h,fun h=>absurd h (by decide)⟩
  | m+1=>by
    have ln:Ln scope false (t5D d (m+1)) (t5T i (m+1)):=ln_app (t5_ln h m).1 (t5_ln h m).1
    exact ⟨ln.tg,fun _=>ln⟩
theorem t5_dk (d:D):∀ m:Nat,depth (t5D d m)=m+depth d∧knots (t5D d m)=t5N (knots d) m∧bigD (t5D d m)=bigD d
  | 0=>⟨by show depth d=_; omega,rfl,rfl⟩
  | m+1=>by
    obtain ⟨a,b,c⟩:=t5_dk d m
    refine ⟨?_,?_,?_⟩
    · simp only [t5D,depth,depthL]; omega
    · simp only [t5D,t5N,knots,knotsL]; omega
    · simp [t5D,bigD,bigL,c]
theorem t5_num (q:Nat):∀ m:Nat,t5N q m+1=2 ^ m*(q+1)
  | 0=>by show q+1=_; omega
  | m+1=>by
    have:=t5_num q m
    show 2*t5N q m+1+1=_
    rw [Nat.pow_succ,Nat.mul_right_comm,← this]
    omega
theorem t5_len (i:List Nat):∀ m:Nat,(t5T i m).length+7=2 ^ m*(i.length+7)
  | 0=>by show i.length+7=_; omega
  | m + 1 => by
    have:=t5_len i m
    have e:(t5T i (m+1)).length=7+2*(t5T i m).length:=by
      show (cl "(app " ++ t5T i m++cl " " ++ t5T i m++cl ")").length=_
      rw [List.length_append,List.length_append,List.length_append,List.length_append,show (cl "(app ").length=5 by decide +kernel,show (cl " ").length=1 by decide +kernel,show (cl ")").length=1 by decide +kernel]
      omega
    rw [e,Nat.pow_succ,Nat.mul_right_comm,← this]
    omega
def f5D (n t:Nat):Nat→D
  | 0=>.tup [.str "next",.tup [.str "var",.int ((n+t:Nat):Int)]]
  | o+1=>.tup [.str "fun",natD,f5D n t o]
def f5T (n:Nat):Nat→List Nat
  | 0=>cl "(next v" ++ [97+n % 26]++[97+n / 26]++cl ")"
  | o+1=>cl "(fun b nat " ++ f5T n o++cl ")"
theorem f5_ln {n:Nat} (hn:n<106) (t:Nat):∀ (o u:Nat),t=o+u→u+o<4→Ln (bs u) false (f5D n t o) (f5T n o)
  | 0,u,ht,hu=>by
    have:=ln_nx (tg_var hn (show u<4 by omega))
    rw [show (vnm n).cps.toList=[118,97+n % 26,97+n / 26] from rfl,show cl "(next " = [40,110,101,120,116,32] by decide +kernel] at this
    show Ln (bs u) false (.tup [.str "next",.tup [.str "var",.int ((n+t:Nat):Int)]]) (cl "(next v" ++ [97+n % 26]++[97+n / 26]++cl ")")
    rw [show cl "(next v" = [40,110,101,120,116,32,118] by decide +kernel,show t=u by omega]
    exact this
  | o+1,u,ht,hu=>ln_fb (scope:=bs u) (f5_ln hn t o (u+1) (by omega) (by omega)).tg
theorem f5_dk (n t:Nat):∀ o:Nat,depth (f5D n t o)≤o+2∧knots (f5D n t o)=2*o+2∧bigD (f5D n t o)=decide (99<n+t)
  | 0 => by
    refine ⟨?_,?_,?_⟩
    · simp [f5D,depth,depthL]
    · simp [f5D,knots,knotsL]
    · simp [f5D,bigD,bigL]
      omega
  | o+1=>by
    obtain ⟨a,b,c⟩:=f5_dk n t o
    obtain ⟨n1,n2,n3⟩:=dk_nat
    refine ⟨?_,?_,?_⟩
    · simp only [f5D,depth,depthL]; omega
    · simp only [f5D,knots,knotsL]; omega
    · simp [f5D,bigD,bigL,c,n3]
theorem no_more5 (G:Tg names false d l):readD names "term" (wS (l++[41]))=none:=by
  rw [wS_cl]
  have:=G.rd names (fo0 "term") [] { fo0 "term" with parts:=[d] } (tks [")"]) rfl (tk (dd := "term") (by rfl) (by rw [G.kd]; decide +kernel))
  unfold readD
  show outD (K55.rd names (wS l++tks [")"]) [fo0 "term"])=none
  rw [this]
  rfl
theorem no_less5 {l0:List Nat} (h:Ln names false d (l0++[41])):readD names "term" (wS l0)=none:=by
  obtain ⟨x,bn,ps,l1,e,hx,_,P,hl,rfl⟩:=h
  have e:l0=l1:=List.append_inj_left' e rfl
  subst e
  have:=P.rd names [fo0 "term"] [] rfl
  rw [List.append_nil] at this
  unfold readD
  show outD (K55.rd names (wS l0) [fo0 "term"])=none
  rw [this]
  rfl
def tails5:List Str:=[" Nat", " nat", " 0 0", "", " ()", " (next)", " (a 0)"]
theorem no_tail5 (G:Tg names false d l) {z:Str} (hz:z∈tails5):readD names "term" (wS (cl "(app " ++ l++z.cps.toList++[41]))=none:=by
  have P0:Tp names "app" none [] (cl "(app"):=tp0 (by decide +kernel) (by decide +kernel) (by decide +kernel) ⟨by decide +kernel,by decide +kernel⟩ (by decide +kernel)
  have P1:=P0.sp (dd := "term") (by decide +kernel) (by decide +kernel) (k:=false) (d:=d) (m:=l) G
  have key:∀ ws:List Str,K55.rd names ws [⟨"app",none,dues "app",[d]⟩,fo0 "term"]=none→readD names "term" (wS (cl "(app" ++ 32::l)++ws)=none:=fun ws e=>by
    unfold readD
    show outD (K55.rd names (wS (cl "(app" ++ 32::l)++ws) [fo0 "term"])=none
    rw [P1.rd names [fo0 "term"] ws rfl]
    exact (congrArg outD e).trans rfl
  have e1:cl "(app " ++ l=cl "(app" ++ 32::l:=by
    rw [show cl "(app " = cl "(app" ++ [32] by decide +kernel,List.append_assoc]
    rfl
  have sp:∀ (z:Str) (m:List Nat) (ws:List Str),z.cps.toList=32::m→wS m=ws→K55.rd names (ws++tks [")"]) [⟨"app",none,dues "app",[d]⟩,fo0 "term"]=none→readD names "term" (wS (cl "(app " ++ l++z.cps.toList++[41]))=none:=fun z m ws a b e=>by
    rw [wS_cl,a,wS_sp,b,e1,List.append_assoc]
    exact key _ e
  simp only [tails5,List.mem_cons,List.not_mem_nil,or_false] at hz
  rcases hz with rfl | rfl | rfl | rfl | rfl | rfl | rfl
  · exact sp _ (cl "Nat") (tks ["Nat"]) (by decide +kernel) (by decide +kernel) (by kernel_rfl)
  · exact sp _ (cl "nat") (tks ["nat"]) (by decide +kernel) (by decide +kernel) (by kernel_rfl)
  · exact sp _ (cl "0 0") (tks ["0", "0"]) (by decide +kernel) (by decide +kernel) (by kernel_rfl)
  · rw [show (Str.ofString "").cps.toList=[] by decide +kernel,List.append_nil,wS_cl,e1]
    exact key _ (by kernel_rfl)
  · exact sp _ (cl "()") (tks ["(", ")"]) (by decide +kernel) (by decide +kernel) (by kernel_rfl)
  · exact sp _ (cl "(next)") (tks ["(", "next", ")"]) (by decide +kernel) (by decide +kernel) (by kernel_rfl)
  · exact sp _ (cl "(a 0)") (tks ["(", "a", "0", ")"]) (by decide +kernel) (by decide +kernel) (by kernel_rfl)
end K55
end
section
namespace L3
open PySem PySem.Spec PyProof.Rows L2
theorem noFill_tuple_mul:fillsNumberSlot (.type "tuple") "mul" = pure false :=
  PySem.fillsNumberSlot_seq (id := "tuple.__mul__") (r:=some (.builtin "tuple.__rmul__")) PySem.F.slot_tuple_mul.lookup (by decide +kernel) PySem.F.slot_tuple_rmul.lookup (by decide +kernel)
theorem repeat_tuple:seqRepeat? (.type "tuple")=pure (some (.builtin "tuple.__mul__")):=by
  unfold seqRepeat?
  rw [PySem.seqSlot_of (T := "tuple") (name := "__mul__") (id := "tuple.__mul__") PySem.F.slot_tuple_mul.lookup (by decide +kernel),PySem.seqSlot_of (T := "tuple") (name := "__rmul__") (id := "tuple.__rmul__") PySem.F.slot_tuple_rmul.lookup (by decide +kernel)]
  rfl
theorem int_rmul_tup (a:Int) (t:Tok) (l:Addr) (items:Array Value) (n:Nat) (dd:Option Addr) (sl:Array (Option Value)) :
    Meets (Builtin.«int.__rmul__» ⟨[.int a t, .ref l], []⟩) (fun _ R s => s.heap.get? l = some { cls := .type "tuple", dict := dd, data := .seq items n, slots := sl } ∧ R (.ok (.ret Value.notImplemented)) s) :=
  .of_wp fun prog w A R s h=>by obtain ⟨hp,g,d,tk,os⟩:=s; obtain ⟨hl,h⟩:=h; wp_walk; exact ⟨_,rfl,h⟩
theorem tup_mul1 (l:Addr) (t:Tok) (items:Array Value) (n:Nat) (dd:Option Addr) (sl:Array (Option Value)) :
    Meets (Builtin.«tuple.__mul__» ⟨[.ref l, .int 1 t], []⟩) (fun _ R s => s.heap.get? l = some { cls := .type "tuple", dict := dd, data := .seq items n, slots := sl } ∧ R (.ok (.ret (.ref l))) s) :=
  .of_wp fun prog w A R s h=>by obtain ⟨hp,g,d,tk,os⟩:=s; obtain ⟨hl,h⟩:=h; wp_walk; exact ⟨_,rfl,h⟩
theorem tup_mulN (l:Addr) (k:Int) (t:Tok) (items:Array Value) (n:Nat) (dd:Option Addr) (sl:Array (Option Value)) (h2:¬ (decide (k< -2 ^ 63) || decide (k≥2 ^ 63))=true) (hi:¬ (items.isEmpty || k==1)=true) (hj:¬ (decide (k≤0) || items.isEmpty)=true) (hm:¬ (items.size*k>(2 ^ 63-1) / 8)) (ht:¬ Builtin.Tuple.tupleTooMany (items.size*k)=true) (hz:¬ (List.foldl (fun x1 x2=>x1++x2) #[] (List.replicate k.toNat items)).size>sizeLine) :
    Meets (Builtin.«tuple.__mul__» ⟨[.ref l, .int k t], []⟩) (fun _ R s => s.heap.get? l = some { cls := .type "tuple", dict := dd, data := .seq items n, slots := sl } ∧ R (.ok (.ret (.ref s.heap.objs.size))) { s with heap := s.heap.push { cls := .type "tuple", data := .seq ((List.replicate k.toNat items).foldl (· ++ ·) #[]) } }) :=
  .of_wp fun prog w A R s h=>by
    obtain ⟨hp,g,d,tk,os⟩:=s; obtain ⟨hl,h⟩:=h
    wp_walk
    refine wpAny_ite_false (decide_eq_false h2) ?_
    wp_walk
    refine wpAny_ite_false (decide_eq_false hm) ?_
    wp_walk
    exact ⟨_,rfl,h⟩
def rRepT:R2:=fun x y H Q=>∃ a k xs,x=.ref a∧y=.int ((k:Nat):Int)∧H a=some (.tup xs)∧xs≠[]∧1≤k∧k≤1000∧xs.length≤1000∧∀ p H',Same H H'→H' p=some (.tup (List.replicate k xs).flatten)→Q (.ref p) H'
theorem op_repT {X:Cx}:OpR X (binaryOp .Mult) rRepT:=by
  intro pins s σ H x y v u Q I rx ry h
  obtain ⟨a,k,xs,rfl,rfl,hH,hne,h1,h2,h3,q⟩:=h
  cases rx
  obtain ⟨t,rfl⟩:=ry
  obtain ⟨its,r1,p1,_⟩:=I.tuple (SqT.of hH)
  have hl:its.length=xs.length:=r1.length.symm
  obtain ⟨⟨cls,dd,data,sl⟩,ho,hc,n,hd⟩:=id p1
  simp only at hc hd
  subst hc hd
  have hnew:List.foldl (fun x1 x2=>x1++x2) #[] (List.replicate k its.toArray)=(List.replicate k its).flatten.toArray:=by
    have:=foldl_rep its k []
    rw [List.nil_append] at this
    exact this
  have hlen:(List.replicate k its).flatten.length=k*its.length:=len_rep its k
  have hb:k*its.length≤1000*1000:=Nat.mul_le_mul h2 (by omega)
  refine wpAny_binaryOp_repeat_ref (T := "tuple") (U := "int") (by decide) ⟨_,ho,rfl⟩ (fun s'=>typeIs_int s' _ t) noFill_tuple_mul PySem.F.fills_int_mul PySem.F.slot_int_rmul repeat_tuple PySem.F.slot_int_index.lookup
    (call_meets PySem.F.slot_int_rmul (typeIs_int s _ t) PySem.F.entry_int_rmul (PySem.F.args_int_rmul_2 _ _) (int_rmul_tup _ t a its.toArray n dd sl)
      ⟨ho,rfl,⟨_,ho,rfl⟩,?_⟩)
  by_cases hk:k=1
  · subst hk
    exact call_meets PySem.F.slot_tuple_mul ⟨_,ho,rfl⟩ PySem.F.entry_tuple_mul (PySem.F.args_tuple_mul_2 _ _) (tup_mul1 a t its.toArray n dd sl) ⟨ho,.ref a,H,I,rfl,q a H (Same.refl H) (by rw [hH]; simp)⟩
  · have hie:its.toArray.isEmpty=false:=by
      cases its with
      | nil=>exact absurd (List.length_eq_zero_iff.mp hl.symm) hne
      | cons _ _=>rfl
    have hsz:its.toArray.size=its.length:=List.size_toArray
    have hmul:((its.toArray.size:Nat):Int)*((k:Nat):Int)=((k*its.length:Nat):Int):=by rw [hsz,Nat.mul_comm]; exact (Int.natCast_mul _ _).symm
    refine call_meets PySem.F.slot_tuple_mul ⟨_,ho,rfl⟩ PySem.F.entry_tuple_mul (PySem.F.args_tuple_mul_2 _ _) (tup_mulN a ((k:Nat):Int) t its.toArray n dd sl ?_ ?_ ?_ ?_ ?_ ?_) ⟨ho,?_⟩
    · rw [Bool.or_eq_true,decide_eq_true_eq,decide_eq_true_eq]; omega
    · rw [hie,Bool.false_or,beq_iff_eq]; omega
    · rw [hie,Bool.or_false,decide_eq_true_eq]; omega
    · rw [hmul]; omega
    · unfold Builtin.Tuple.tupleTooMany
      rw [hmul,decide_eq_true_eq,sizeLine_eq]; omega
    · rw [Int.toNat_natCast,hnew,List.size_toArray,hlen,sizeLine_eq]; omega
    · rw [Int.toNat_natCast,hnew]
      refine ⟨.ref s.heap.objs.size,_,I.laid (t':=s.toks) (o:=.tup (List.replicate k xs).flatten) (fun b ob q=>Heap.get?_push_of_some _ q) (Nat.le_refl _) ?_,rfl,q _ _ (same_new (I.hok.fresh (Nat.le_refl _)) _) upd_same⟩
      exact ⟨by rw [len_rep,← hl,sizeLine_eq]; omega,_,r1.rep k,IsTup.new _ _⟩
end L3
end
section
set_option maxHeartbeats 4000000
namespace K55
open PySem L2 L3 KM PyProof.Rows
seal L2.PE L2.PS L2.PSs L2.PT L2.PW L2.PA L2.PG L2.PGs L2.PI L2.PC L2.PO L2.PPs L2.PK L3.PIf L3.PEp L3.PSp L3.PSsp L3.PSg L3.PH L3.PB
variable {P:Program} {w:World} {K:PySem.W.Frag} {mg:Str→Option Value} {base:Heap} {t:Adr}
theorem rep_len (l:List Nat) (n:Nat):(repL l n).length=n*l.length:=by
  induction n with
  | zero=>rw [rep_zero]; simp
  | succ n ih=>rw [rep_succ,List.length_append,ih,Nat.succ_mul]; omega
theorem mul_len (z:Str) (n:Nat):(Txt.mul z (n:Nat)).length=n*z.length:=by rw [str_len,mul_cps,rep_len,← str_len]
theorem mul_ok {z:Str} {n:Nat} (h1:z.length≤100) (h2:n≤1000):MulOk z (n:Nat):=mulOk_of 100 1000 h1 (by omega) (by omega) (by decide) (by decide)
theorem grt_of {d:D} {a b:Nat} {c:Bool} (h1:depth d≤a) (h2:knots d=b) (h3:bigD d=c) (ha:a≤40) (hb:b≤600) (hc:c=false):grtD d=false:=by
  show (vastD d || bigD d)=false
  rw [h3,hc,Bool.or_false]
  unfold vastD
  simp
  omega
theorem grt_deep {d:D} (h:40<depth d):grtD d=true:=by
  show (vastD d || bigD d)=true
  have:vastD d=true:=by
    unfold vastD
    simp
    omega
  rw [this]
  rfl
theorem grt_many {d:D} (h:600<knots d):grtD d=true:=by
  show (vastD d || bigD d)=true
  have:vastD d=true:=by
    unfold vastD
    simp
    omega
  rw [this]
  rfl
theorem rep_tup {H:Hp} {p:Addr} {x:Str} {ds:List D} {vs:List V} (h:H p=some (.tup (.str x::vs))) (hx:x.length≤1000) (r:Reps H ds vs):Rep H (.tup (.str x::ds)) (.ref p):=⟨p,_,rfl,h,_,_,rfl,⟨rfl,hx⟩,r⟩
theorem reps1 {H:Hp} {d:D} {v:V} (h:Rep H d v):Reps H [d] [v]:=⟨v,[],rfl,h,rfl⟩
theorem reps2 {H:Hp} {d e:D} {v u:V} (h:Rep H d v) (h2:Rep H e u):Reps H [d,e] [v,u]:=⟨v,[u],rfl,h,reps1 h2⟩
theorem spl_many (l:List Nat):(spl 32 l).length≤l.length+1:=by
  induction l with
  | nil=>decide
  | cons a l ih =>
    rw [spl]
    split
    · rw [List.length_cons,List.length_cons]; omega
    · obtain ⟨w,ws,e⟩:=spl_ne 32 l
      rw [e] at ih ⊢
      simp only [List.length_cons] at ih ⊢
      omega
theorem sg_many (c:Nat):(sg c).length≤3:=by
  unfold sg
  repeat' split
  all_goals simp
theorem flat_many (l:List Nat):(l.flatMap sg).length≤3*l.length:=by
  induction l with
  | nil=>decide
  | cons a l ih =>
    have:=sg_many a
    rw [List.flatMap_cons,List.length_append,List.length_cons]
    omega
theorem wS_many (l:List Nat):(wS l).length≤3*l.length+1:=by
  unfold wS wdsL
  rw [List.length_map]
  exact Nat.le_trans (List.length_filter_le _ _) (Nat.le_trans (spl_many _) (by have:=flat_many l; omega))
def dueV (d:D):D:=if grtD d=true then .str "great" else d
theorem pr_due {H:Hp} {d:D} {v:V} (h1:grtD d=true→v=.str "great") (h2:grtD d=false→Rep H d v):Rep H (dueV d) v:=by
  unfold dueV
  cases e:grtD d with
  | true=>rw [if_pos rfl,h1 e]; exact ⟨rfl,by decide +kernel⟩
  | false=>rw [if_neg (by decide)]; exact h2 e
theorem due_dp (d:D):depth (dueV d)≤60:=by
  unfold dueV
  split
  · decide +kernel
  · rename_i h
    have h:(vastD d || bigD d)=false:=Bool.eq_false_iff.mpr h
    rw [Bool.or_eq_false_iff] at h
    have h:=h.1
    unfold vastD at h
    simp at h
    omega
theorem due_cm {d:D} (h:cmpD d=true):cmpD (dueV d)=true:=by
  unfold dueV
  split
  · decide +kernel
  · exact h
structure Ek (K:PySem.W.Frag) (t:Adr):Prop where
  nt:ExcK K t.NoText
  ke:ExcK K t.KeeperError
  gr:ExcK K t.Great
  c:ClsK K t.NoText
  cg:ClsK K t.Great
  s2:PySem.W.subIn K (.ref t.NoText) (.ref t.KeeperError)=some true
  s3:PySem.W.subIn K (.ref t.Great) (.ref t.KeeperError)=some true
  k1:PySem.W.kitOne K (.ref t.NoText) (.ref t.Great)=some false
  k2:PySem.W.kitOne K (.ref t.NoText) (.ref t.NoText)=some true
  k3:PySem.W.kitOne K (.ref t.Great) (.ref t.Great)=some true
  k4:PySem.W.kitOne K (.ref t.Great) (.ref t.NoText)=some false
def spTold:Sp:=fun vs H Q _=>∃ (T:Str) (b:Addr) (names:List Str),vs=[.str T,.ref b]∧T.length≤99999∧H b=some (.lst (names.map V.str))∧names.length≤1000∧(wS T.cps.toList).length≤50000∧(∀ z∈wS T.cps.toList,1≤z.length∧z.length≤1000) ∧
  (readD names "term" (wS T.cps.toList)=none→∀ H',Same H H'→Q (.str "none") H')∧∀ d:D,readD names "term" (wS T.cps.toList)=some d→Rb d 60∧(∀ (v:V) (H':Hp),Same H H'→Rep H' d v→grtD d=false→Q v H')∧∀ H',Same H H'→grtD d=true→Q (.str "great") H'
theorem sc_law_told:FnScope ["_law_line", "_law_names", "e"] ["_law_line", "_law_names"] (defScope s_law_told):=⟨rfl,rfl,rfl,by decide +kernel,rfl,by decide +kernel,by decide +kernel⟩
theorem c_law_told (D:Df K mg "_law_told" s_law_told ["_law_line", "_law_names"]) (M:Mg mg t) (X:Ek K t) (F_read_term:Cal P w K mg (CXo P w) "read_term" (67) ["text", "names"] (spRT "term" K t.NoText t.Great)):Cal P w K mg CX0 "_law_told" (68) ["_law_line", "_law_names"] spTold:=by
  refine D.ok sc_law_told (fun vs H Q E h=>?_) (fun base f cdv A outer s H vs Q E hr h=>?_)
  · obtain ⟨T,b,names,rfl,_⟩:=h
    rfl
  obtain ⟨T,b,names,rfl,hT,hb,hn,hwl,hwy,qe,q⟩:=h
  have E_KeeperError:=X.ke
  refine ⟨_,(pss_cons (ps_try rfl rfl rfl (pb_ret F_read_term (hr.mono (by omega)) rfl rfl (pa_cons (pv 0) (pa_cons (pv 1) pa_nil))) (ph_as (i:=2) false sc_law_told.nd rfl rfl E_KeeperError M.g_KeeperError rfl (fun z=>nomatch z) (fun a C oe hoe=>(pss_cons (ps_if (L2.PW.pt (pw_and (pt_val (pe_callB (call_isXK (K:=K) List.mem_cons_self hoe) rfl M.n_isinstance bt_isinstance (pa_cons (pv 2) (pa_cons (pe_gref M.g_Great rfl) pa_nil)))) (pw_and1 (pt_not (pt_val (pe_callB (call_isXK (K:=K) List.mem_cons_self hoe) rfl M.n_isinstance bt_isinstance (pa_cons (pv 2) (pa_cons (pe_gref M.g_NoText rfl) pa_nil)))))))) (pss_one (ps_ret pe_str)) pss_nil)
      (pss_one (ps_if (L2.PW.pt (pw_and (pt_val (pe_callB (call_isXK (K:=K) List.mem_cons_self hoe) rfl M.n_isinstance bt_isinstance (pa_cons (pv 2) (pa_cons (pe_gref M.g_NoText rfl) pa_nil)))) (pw_and1 (pt_not (pt_val (pe_callB (call_isXK (K:=K) List.mem_cons_self hoe) rfl M.n_isinstance bt_isinstance (pa_cons (pv 2) (pa_cons (pe_gref M.g_Great rfl) pa_nil)))))))) (pss_one (ps_ret pe_str)) pss_nil)))) ph_nil))
      (pss_one (ps_ret pe_str))),?_⟩
  try dsimp only [cxK,cxK2]
  refine let2 ?_
  intro _ _
  have hwe:∀ z∈wdsL T.cps.toList,1≤z.length∧z.length≤1000:=fun z hz=>hwy (tx z) (List.mem_map.mpr ⟨z,hz,rfl⟩)
  have hwm:(wdsL T.cps.toList).length≤50000:=by
    unfold wS at hwl
    rw [List.length_map] at hwl
    exact hwl
  refine ⟨_,rfl,_,rfl,T,b,rfl,T, "term",b,names,rfl,hT,hb,hn,hwm,hwe,fun e H1 s1=>?_,fun d e=>?_⟩
  · refine ⟨_,rfl,fun a1 ha1=>⟨true,X.s2,iteT ?_⟩⟩
    refine ⟨_,rfl,.ref t.Great,.ref t.Great,false,rfl,X.c,fun u h=>h,X.k1,?_⟩
    refine ⟨false,rfl,iteF (iteF ⟨_,rfl,.ref t.NoText,.ref t.NoText,true,rfl,X.c,fun u h=>h,X.k2,true,rfl,iteT ?_⟩)⟩
    exact ⟨_,rfl,.ref t.Great,.ref t.Great,false,rfl,X.c,fun u h=>h,X.k1,false,rfl,iteT (qe e H1 s1)⟩
  · obtain ⟨rz,q1,q2⟩:=q d e
    refine ⟨rz,fun v H' s1 r hg=>q1 v H' s1 r hg,fun H1 s1 hg=>?_⟩
    refine ⟨_,rfl,fun a1 ha1=>⟨true,X.s3,iteT ?_⟩⟩
    refine ⟨_,rfl,.ref t.Great,.ref t.Great,true,rfl,X.cg,fun u h=>h,X.k3,?_⟩
    refine ⟨true,rfl,iteT ?_⟩
    exact ⟨_,rfl,.ref t.NoText,.ref t.NoText,false,rfl,X.cg,fun u h=>h,X.k4,false,rfl,iteT (q2 H1 s1 hg)⟩
theorem told_none {H:Hp} {Q:VK} {E:XK} {T:Str} {b:Addr} {names:List Str} (hT:T.length≤16000) (hb:H b=some (.lst (names.map V.str))) (hn:names.length≤1000) (hw:∀ z∈wS T.cps.toList,1≤z.length∧z.length≤12) (hr:readD names "term" (wS T.cps.toList)=none) (q:∀ H',Same H H'→Q (.str "none") H'):spTold [.str T,.ref b] H Q E:=by
  have:=wS_many T.cps.toList
  rw [← str_len] at this
  exact ⟨T,b,names,rfl,by omega,hb,hn,by omega,fun z hz=>⟨(hw z hz).1,Nat.le_trans (hw z hz).2 (by decide)⟩,fun _=>q,fun d e=>by rw [hr] at e; cases e⟩
theorem told_some {H:Hp} {Q:VK} {E:XK} {T:Str} {b:Addr} {names:List Str} {d:D} (hT:T.length≤16000) (hb:H b=some (.lst (names.map V.str))) (hn:names.length≤1000) (G:Tg names false d T.cps.toList) (h2:knots d≤8000000) (q:∀ (v:V) (H':Hp),Same H H'→Rep H' (dueV d) v→Q v H'):spTold [.str T,.ref b] H Q E:=by
  have hm:=wS_many T.cps.toList
  rw [← str_len] at hm
  have hr:readD names "term" (wS T.cps.toList)=some d:=by
    have h:=G.rd names (fo0 "term") [] { fo0 "term" with parts:=[d] } [] rfl (tk (dd := "term") (by rfl) (by rw [G.kd]; decide +kernel))
    rw [List.append_nil] at h
    unfold readD
    show outD (K55.rd names (wS T.cps.toList) [fo0 "term"])=_
    rw [h]
    rfl
  refine ⟨T,b,names,rfl,by omega,hb,hn,by omega,fun z hz=>⟨(G.wd z hz).1,Nat.le_trans (G.wd z hz).2 (by decide)⟩,fun e=>?_,fun d' e=>?_⟩
  · rw [hr] at e; cases e
  rw [hr] at e
  cases e
  refine ⟨⟨⟨_,G.wf⟩,h2⟩,fun v H' s r hg=>q v H' s (pr_due (fun h=>?_) fun _=>r),fun H' s hg=>q _ H' s (pr_due (fun _=>rfl) fun h=>?_)⟩
  · rw [hg] at h; cases h
  · rw [hg] at h; cases h
theorem cell_mod (c:Int) (m:Nat) (h:0<m):∃ k:Nat,c % (m:Int)=(k:Int)∧k<m:=by
  have h0:=Int.emod_nonneg c (show (m:Int)≠0 by omega)
  have h1:=Int.emod_lt_of_pos c (show (0:Int)<(m:Int) by omega)
  exact ⟨(c % (m:Int)).toNat,by omega,by omega⟩
theorem sqlM {H H':Hp} {a:Addr} {xs:List V} (h:SqL K H a xs) (s:Same H H'):SqL K H' a xs:=by
  rcases h with h | h
  · exact .inl (h.imp (fun h=>s _ _ h) fun ⟨o,h⟩=>⟨o,s _ _ h⟩)
  · exact .inr h
theorem cut_last {z:Str} (h:1≤z.length):cutS z none (some (-1))=z.cps.toList.take (z.length-1):=by
  have e:HT.sIx z.length z.length (some (-1))=z.length-1:=by
    unfold HT.sIx
    simp
    omega
  unfold cutS
  rw [e]
  show (z.cps.toList.drop (HT.sIx z.length 0 none)).take (z.length-1-HT.sIx z.length 0 none)=_
  rw [show HT.sIx z.length 0 none=0 from rfl]
  rfl
theorem rep_str {H:Hp} {z:Str} (h:z.length≤1000):Rep H (.str z) (.str z):=⟨rfl,h⟩
structure Pr (names:List Str) (r:Addr) (H H':Hp):Prop where
  ex:∃ (T:Str) (v:V) (d:D),H' r=some (.tup [.str T,v])∧Same H H'∧T.length≤15000∧Tg names false d T.cps.toList∧(Ln names false d T.cps.toList∨T.cps.toList.getLast?≠some 41)∧knots d≤8000000∧(grtD d=true→v=.str "great")∧(grtD d=false→Rep H' d v)
structure Pn (names:List Str) (r:Addr) (H:Hp):Prop where
  ex:∃ (T:Str) (v:V) (d:D),H r=some (.tup [.str T,v])∧T.length≤15000∧Tg names false d T.cps.toList∧(Ln names false d T.cps.toList∨T.cps.toList.getLast?≠some 41)∧knots d≤8000000∧Rep H (dueV d) v
theorem Pr.pn {names:List Str} {r:Addr} {H H':Hp} (h:Pr names r H H'):Same H H'∧Pn names r H':=by
  obtain ⟨T,v,d,a1,a2,a3,a4,a5,a6,a7,a8⟩:=h.ex
  exact ⟨a2,T,v,d,a1,a3,a4,a5,a6,pr_due a7 a8⟩
theorem Pr.up {names:List Str} {r:Addr} {H H1 H':Hp} (h:Pr names r H1 H') (s:Same H H1):Pr names r H H':=by
  obtain ⟨T,v,d,a1,a2,a3,a4,a5,a6,a7,a8⟩:=h.ex
  exact ⟨T,v,d,a1,s.trans a2,a3,a4,a5,a6,a7,a8⟩
theorem tail_wd {names:List Str} {d:D} {l:List Nat} (G:Tg names false d l) {z:Str} (hz:z∈tails5):∀ y∈wS (cl "(app " ++ l++z.cps.toList++[41]),1≤y.length∧y.length≤12:=fun y hy=>by
  have e1:cl "(app " ++ l=cl "(app" ++ 32::l:=by
    rw [show cl "(app " = cl "(app" ++ [32] by decide +kernel,List.append_assoc]
    rfl
  have h0:∀ y∈wS (cl "(app"),1≤y.length∧y.length≤12:=fun y hy=>by
    have:=List.all_eq_true.mp (show ((wS (cl "(app")).all fun y=>decide (1≤y.length) && decide (y.length≤12))=true by decide +kernel) y hy
    simpa using this
  have hc:∀ y∈tks [")"],1≤y.length∧y.length≤12:=fun y hy=>by
    have:y = ")" := by simpa [tks] using hy
    rw [this]
    exact ⟨by decide +kernel,by decide +kernel⟩
  have hz2:wS (cl "(app" ++ 32::l++z.cps.toList)=wS (cl "(app")++wS l++wS z.cps.toList∧∀ y∈wS z.cps.toList,1≤y.length∧y.length≤12:=by
    have hw:=List.all_eq_true.mp (show (tails5.all fun z=>(wS z.cps.toList).all fun y=>decide (1≤y.length) && decide (y.length≤12))=true by decide +kernel) z hz
    have hs:=List.all_eq_true.mp (show (tails5.all fun z=>match z.cps.toList with | []=>true | c::m=>decide (c=32) && decide (wS (c::m)=wS m))=true by decide +kernel) z hz
    refine ⟨?_,fun y hy=>by have:=List.all_eq_true.mp hw y hy; simpa using this⟩
    cases ez:z.cps.toList with
    | nil=>rw [List.append_nil,wS_sp]; show _=_++[]; rw [List.append_nil]
    | cons c m =>
      rw [ez] at hs
      rw [Bool.and_eq_true] at hs
      have c1:=of_decide_eq_true hs.1
      have c2:=of_decide_eq_true hs.2
      rw [c2,c1,wS_sp,wS_sp]
  rw [wS_cl,e1,hz2.1] at hy
  rcases List.mem_append.mp hy with h | h
  · rcases List.mem_append.mp h with h | h
    · rcases List.mem_append.mp h with h | h
      · exact h0 y h
      · exact G.wd y h
    · exact hz2.2 y h
  · exact hc y h
def ovW:Nat→Str
  | 0 => "like" | 1 => "never" | 2 => "fun" | 3 => "pair" | 4 => "rec" | _ => "carry"
def ovP:Nat→Str
  | 0 => "(like " | 1 => "(never " | 2 => "(fun b " | 3 => "(pair " | 4 => "(rec c " | _ => "(carry c "
def ovN:Nat→Nat
  | 0=>1 | 1=>1 | 2=>1 | 3=>2 | 4=>3 | _=>2
def ovVr (f:Nat):D:=.tup [.str "var",.int (if f=2 then 1 else 0)]
def ovD (f:Nat) (d:D):D:=.tup (.str (ovW f)::d::List.replicate (ovN f) (ovVr f))
def ovT (f:Nat) (i:List Nat):List Nat:=(ovP f).cps.toList++i++repL (cl " a") (ovN f)++cl ")"
theorem ok_ln {d:D} {i:List Nat} (h:∀ scope,Tg scope true d i):∀ f<6,Ln ["a"] false (ovD f d) (ovT f i)
  | 0,_=>by
    refine ⟨"like",none,[d,v0D],cl "(like" ++ 32::i++32::cl "a",?_,by decide +kernel,by decide +kernel,?_,(by show 2=(dues "like").length; decide +kernel),rfl⟩
    · unfold ovT
      rw [cl1,show (ovP 0).cps.toList=cl "(like" ++ [32] by decide +kernel,show repL (cl " a") (ovN 0)=32::cl "a" by decide +kernel]
      simp
    have P0:Tp ["a"] "like" none [] (cl "(like"):=tp0 (by decide +kernel) (by decide +kernel) (by decide +kernel) ⟨by decide +kernel,by decide +kernel⟩ (by decide +kernel)
    have P1:=P0.sp (dd := "kind") (by decide +kernel) (by decide +kernel) (k:=true) (d:=d) (m:=i) (h _)
    exact Tp.sp P1 (dd := "term") (by show (dues "like")[1]?=_; decide +kernel) (by decide +kernel) (k:=false) tg_a
  | 1,_=>by
    refine ⟨"never",none,[d,v0D],cl "(never" ++ 32::i++32::cl "a",?_,by decide +kernel,by decide +kernel,?_,(by show 2=(dues "never").length; decide +kernel),rfl⟩
    · unfold ovT
      rw [cl1,show (ovP 1).cps.toList=cl "(never" ++ [32] by decide +kernel,show repL (cl " a") (ovN 1)=32::cl "a" by decide +kernel]
      simp
    have P0:Tp ["a"] "never" none [] (cl "(never"):=tp0 (by decide +kernel) (by decide +kernel) (by decide +kernel) ⟨by decide +kernel,by decide +kernel⟩ (by decide +kernel)
    have P1:=P0.sp (dd := "kind") (by decide +kernel) (by decide +kernel) (k:=true) (d:=d) (m:=i) (h _)
    exact Tp.sp P1 (dd := "term") (by show (dues "never")[1]?=_; decide +kernel) (by decide +kernel) (k:=false) tg_a
  | 2,_=>by
    have:=ln_fun (scope:=["a"]) (n := "b") (by decide +kernel) (h _) (tg_ab 1)
    unfold ovT
    rw [cl1,show (ovP 2).cps.toList=cl "(fun" ++ 32::(Str.ofString "b").cps.toList++[32] by decide +kernel,show repL (cl " a") (ovN 2)=32::cl "a" by decide +kernel]
    simpa [ovD,ovW,ovN,ovVr] using this
  | 3,_=>by
    refine ⟨"pair",none,[d,v0D,v0D],cl "(pair" ++ 32::i++32::cl "a" ++ 32::cl "a",?_,by decide +kernel,by decide +kernel,?_,(by show 3=(dues "pair").length; decide +kernel),rfl⟩
    · unfold ovT
      rw [cl1,show (ovP 3).cps.toList=cl "(pair" ++ [32] by decide +kernel,show repL (cl " a") (ovN 3)=32::cl "a" ++ 32::cl "a" by decide +kernel]
      simp
    have P0:Tp ["a"] "pair" none [] (cl "(pair"):=tp0 (by decide +kernel) (by decide +kernel) (by decide +kernel) ⟨by decide +kernel,by decide +kernel⟩ (by decide +kernel)
    have P1:=P0.sp (dd := "kind") (by decide +kernel) (by decide +kernel) (k:=true) (d:=d) (m:=i) (h _)
    have P2:=Tp.sp P1 (dd := "term") (by show (dues "pair")[1]?=_; decide +kernel) (by decide +kernel) (k:=false) tg_a
    exact Tp.sp P2 (dd := "term") (by show (dues "pair")[2]?=_; decide +kernel) (by decide +kernel) (k:=false) tg_a
  | 4,_=>by
    have o:overV "rec" = .int ((0:Nat):Int):=by kernel_rfl
    refine ⟨"rec",some "c",[d,v0D,v0D,v0D],cl "(rec" ++ 32::(Str.ofString "c").cps.toList++32::i++32::cl "a" ++ 32::cl "a" ++ 32::cl "a",?_,by decide +kernel,by decide +kernel,?_,(by show 4=(dues "rec").length; decide +kernel),rfl⟩
    · unfold ovT
      rw [cl1,show (ovP 4).cps.toList=cl "(rec" ++ 32::(Str.ofString "c").cps.toList++[32] by decide +kernel,show repL (cl " a") (ovN 4)=32::cl "a" ++ 32::cl "a" ++ 32::cl "a" by decide +kernel]
      simp
    have P0:Tp ["a"] "rec" (some "c") [] (cl "(rec" ++ 32::(Str.ofString "c").cps.toList):=tp1 (by decide +kernel) (by decide +kernel) (by decide +kernel) ⟨by decide +kernel,by decide +kernel⟩ (by decide +kernel) (by decide +kernel)
    have P1:=P0.sp (dd := "kind") (by decide +kernel) (by decide +kernel) (k:=true) (d:=d) (m:=i) (h _)
    have P2:=Tp.sp P1 (dd := "term") (by show (dues "rec")[1]?=_; decide +kernel) (by decide +kernel) (k:=false) (m:=cl "a") (d:=v0D) (by show Tg (scI ["a"] "rec" (some "c") 1) false v0D (cl "a"); rw [sc0 o (by decide)]; exact tg_a)
    have P3:=Tp.sp P2 (dd := "term") (by show (dues "rec")[2]?=_; decide +kernel) (by decide +kernel) (k:=false) (m:=cl "a") (d:=v0D) (by show Tg (scI ["a"] "rec" (some "c") 2) false v0D (cl "a"); rw [sc0 o (by decide)]; exact tg_a)
    exact Tp.sp P3 (dd := "term") (by show (dues "rec")[3]?=_; decide +kernel) (by decide +kernel) (k:=false) (m:=cl "a") (d:=v0D) (by show Tg (scI ["a"] "rec" (some "c") 3) false v0D (cl "a"); rw [sc0 o (by decide)]; exact tg_a)
  | 5,_=>by
    have o:overV "carry" = .int ((0:Nat):Int):=by kernel_rfl
    refine ⟨"carry",some "c",[d,v0D,v0D],cl "(carry" ++ 32::(Str.ofString "c").cps.toList++32::i++32::cl "a" ++ 32::cl "a",?_,by decide +kernel,by decide +kernel,?_,(by show 3=(dues "carry").length; decide +kernel),rfl⟩
    · unfold ovT
      rw [cl1,show (ovP 5).cps.toList=cl "(carry" ++ 32::(Str.ofString "c").cps.toList++[32] by decide +kernel,show repL (cl " a") (ovN 5)=32::cl "a" ++ 32::cl "a" by decide +kernel]
      simp
    have P0:Tp ["a"] "carry" (some "c") [] (cl "(carry" ++ 32::(Str.ofString "c").cps.toList):=tp1 (by decide +kernel) (by decide +kernel) (by decide +kernel) ⟨by decide +kernel,by decide +kernel⟩ (by decide +kernel) (by decide +kernel)
    have P1:=P0.sp (dd := "kind") (by decide +kernel) (by decide +kernel) (k:=true) (d:=d) (m:=i) (h _)
    have P2:=Tp.sp P1 (dd := "term") (by show (dues "carry")[1]?=_; decide +kernel) (by decide +kernel) (k:=false) (m:=cl "a") (d:=v0D) (by show Tg (scI ["a"] "carry" (some "c") 1) false v0D (cl "a"); rw [sc0 o (by decide)]; exact tg_a)
    exact Tp.sp P2 (dd := "term") (by show (dues "carry")[2]?=_; decide +kernel) (by decide +kernel) (k:=false) (m:=cl "a") (d:=v0D) (by show Tg (scI ["a"] "carry" (some "c") 2) false v0D (cl "a"); rw [sc0 o (by decide)]; exact tg_a)
  | f+6,h=>absurd h (by omega)
theorem okv_dk (f:Nat):depth (ovVr f)=1∧knots (ovVr f)=1∧bigD (ovVr f)=false:=by
  unfold ovVr
  split
  · exact ⟨by kernel_rfl,by kernel_rfl,by kernel_rfl⟩
  · exact ⟨by kernel_rfl,by kernel_rfl,by kernel_rfl⟩
theorem okn_ok (f:Nat):ovN f=1∨ovN f=2∨ovN f=3:=by
  unfold ovN
  split <;> simp
theorem ok_dk {d:D} (f:Nat) (h:1≤depth d):depth (ovD f d)=1+depth d∧knots (ovD f d)=1+knots d+ovN f∧bigD (ovD f d)=bigD d:=by
  obtain ⟨a1,a2,a3⟩:=okv_dk f
  unfold ovD
  rcases okn_ok f with e | e | e <;> rw [e]
  · exact ⟨by simp only [List.replicate,depth,depthL]; omega,by simp only [List.replicate,knots,knotsL]; omega,by simp [List.replicate,bigD,bigL,a3]⟩
  · exact ⟨by simp only [List.replicate,depth,depthL]; omega,by simp only [List.replicate,knots,knotsL]; omega,by simp [List.replicate,bigD,bigL,a3]⟩
  · exact ⟨by simp only [List.replicate,depth,depthL]; omega,by simp only [List.replicate,knots,knotsL]; omega,by simp [List.replicate,bigD,bigL,a3]⟩
def ne5T (k:Nat):List Nat:=cl "(app " ++ t5T (cl "a") 8++cl " (app " ++ nxT (cl "a") 29++cl " " ++ (cl "(app " ++ nxT (cl "a") 29++cl " " ++ nxT (cl "a") k++cl ")")++cl "))"
def ne5D (k:Nat):D:=.tup [.str "app",t5D v0D 8,.tup [.str "app",nxD v0D 29,.tup [.str "app",nxD v0D 29,nxD v0D k]]]
theorem ne5_ln (k:Nat):Ln ["a"] false (ne5D k) (ne5T k):=by
  have B:=(ln_app (nx_tg tg_a 29) (nx_tg tg_a k)).tg
  have C:=(ln_app (nx_tg tg_a 29) B).tg
  have:=ln_app (t5_ln tg_a 8).1 C
  unfold ne5T ne5D
  rw [show cl " (app " = cl " " ++ cl "(app " by decide +kernel,show cl "))" = cl ")" ++ cl ")" by decide +kernel]
  simpa [v0D] using this
theorem ne5_dk (k:Nat) (hk:k≤30):depth (ne5D k)≤40∧knots (ne5D k)=575+k∧bigD (ne5D k)=false:=by
  have z:=fun m=>nx_dk (d:=v0D) (by kernel_rfl) (by kernel_rfl) (by kernel_rfl) m
  obtain ⟨a1,b1,c1⟩:=z 29
  obtain ⟨a2,b2,c2⟩:=z k
  obtain ⟨a3,b3,c3⟩:=t5_dk v0D 8
  have e3:t5N (knots v0D) 8=511:=by kernel_rfl
  have e4:depth v0D=1:=by kernel_rfl
  have e5:bigD v0D=false:=by kernel_rfl
  unfold ne5D
  refine ⟨?_,?_,?_⟩
  · simp only [depth,depthL]; omega
  · simp only [knots,knotsL]; omega
  · simp [bigD,bigL,c1,c2,c3,e5]
end K55
end
section
set_option maxHeartbeats 4000000
namespace K55
open PySem L2 L3 KM PyProof.Rows
seal L2.PE L2.PS L2.PSs L2.PT L2.PW L2.PA L2.PG L2.PGs L2.PI L2.PC L2.PO L2.PPs L2.PK L3.PIf L3.PEp L3.PSp L3.PSsp L3.PSg L3.PH L3.PB
variable {P:Program} {w:World} {K:PySem.W.Frag} {mg:Str→Option Value} {base:Heap} {t:Adr}
def spChain:Sp:=fun vs H Q _=>∃ (m s lev:Nat) (T0:Str) (v0:V) (d0:D) (names:List Str),vs=[.int (m:Nat),.int (s:Nat),.str T0,v0,.int (lev:Nat)]∧m≤400∧s<3∧T0.length≤9∧Rep H d0 v0∧depth d0=lev∧1≤lev∧knots d0≤40∧(bigD d0=true→40<m+lev)∧Tg (c5S s m names) false d0 T0.cps.toList∧T0.cps.toList.getLast?≠some 41∧∀ (r:Addr) (H':Hp),Pr names r H H'→Q (.ref r) H'
theorem c5_short:((List.range 3).all fun s=>decide ((c5P s).length≤11))=true:=by decide +kernel
theorem sc_law_chain:FnScope ["_law_many", "_law_way", "_law_line", "_law_thing", "_law_levels", "_law_k"] ["_law_many", "_law_way", "_law_line", "_law_thing", "_law_levels"] (defScope s_law_chain):=⟨rfl,rfl,rfl,by decide +kernel,rfl,by decide +kernel,by decide +kernel⟩
theorem c_law_chain (D:Df K mg "_law_chain" s_law_chain ["_law_many", "_law_way", "_law_line", "_law_thing", "_law_levels"]) (M:Mg mg t):Cal P w K mg CX0 "_law_chain" (1) ["_law_many", "_law_way", "_law_line", "_law_thing", "_law_levels"] spChain:=by
  refine D.ok sc_law_chain (fun vs H Q E h=>?_) (fun base f cdv A outer s H vs Q E hr h=>?_)
  · obtain ⟨m,s,lev,T0,v0,d0,names,rfl,_⟩:=h
    rfl
  obtain ⟨m,s,lev,T0,v0,d0,names,rfl,hm,hs,hT0,r0,hd0,hlev,hk0,hb0,G0,hl0,q⟩:=h
  refine ⟨_,(pss_cons (ps_set (i:=2) sc_law_chain.nd rfl (by first | exact Or.inl rfl | exact Or.inr rfl) (pe_op op_add_str (pe_op op_add_str (pe_op op_repS (pe_ix ix_list (pe_lst (pa_cons pe_str (pa_cons pe_str (pa_cons pe_str pa_nil)))) (pv 1) (fun _ _=>rfl)) (pv 0)) (pv 2)) (pe_op op_repS pe_str (pv 0))))
      (pss_cons (ps_if (pt_cmpR op_gt (pe_op op_add (pv 0) (pv 4)) pe_int (nomark _)) (pss_one (ps_ret (pe_tup (pa_cons (pv 2) (pa_cons pe_str pa_nil))))) pss_nil)
      (pss_cons (ps_for PassesOwn.never rfl (pi_range1 rfl M.n_range (pa_cons (pv 0) pa_nil)) (pg_name (i:=5) sc_law_chain.nd rfl (by first | exact Or.inl rfl | exact Or.inr rfl)) (pss_one (ps_if (pt_cmpR op_eq (pv 1) pe_int (nomark _)) (pss_one (ps_set (i:=3) sc_law_chain.nd rfl (by first | exact Or.inl rfl | exact Or.inr rfl) (pe_tup (pa_cons pe_str (pa_cons (pv 3) pa_nil))))) (pss_one (ps_if (pt_cmpR op_eq (pv 1) pe_int (nomark _)) (pss_one (ps_set (i:=3) sc_law_chain.nd rfl (by first | exact Or.inl rfl | exact Or.inr rfl) (pe_tup (pa_cons pe_str (pa_cons (pe_tup (pa_cons pe_str pa_nil)) (pa_cons (pv 3) pa_nil)))))) (pss_one (ps_set (i:=3) sc_law_chain.nd rfl (by first | exact Or.inl rfl | exact Or.inr rfl) (pe_tup (pa_cons pe_str (pa_cons (pv 3) pa_nil))))))))))
      (pss_one (ps_ret (pe_tup (pa_cons (pv 2) (pa_cons (pv 3) pa_nil)))))))),?_⟩
  try dsimp only [cxK,cxK2]
  refine let4 ?_
  intro _ _ _ _
  have l1:=of_decide_eq_true (List.all_eq_true.mp c5_short s (List.mem_range.mpr hs))
  have x1:([V.str "(next ",.str "(fun b nat ",.str "(first "]:List V)[s]?=some (.str (c5P s)):=by match s,hs with | 0,_=>rfl | 1,_=>rfl | 2,_=>rfl
  have m1:=mul_len (c5P s) m
  have m2:=mul_len ")" m
  have n1:m*(c5P s).length≤400*11:=Nat.mul_le_mul hm l1
  have n2:(Str.ofString ")").length=1:=by decide +kernel
  rw [n2] at m2
  refine ⟨(by show 3≤sizeLine; decide),fun p1 hp1=>⟨_,rfl,p1,_,_,_,rfl,rfl,SqL.of upd_same,atI_nat x1,_,rfl,_,_,rfl,rfl,mul_ok (by omega) (by omega),?_⟩⟩
  have s1:=same_new hp1 (.lst [V.str "(next ",.str "(fun b nat ",.str "(first "])
  generalize upd H p1 (.lst [V.str "(next ",.str "(fun b nat ",.str "(first "])=H1 at s1 ⊢
  refine ⟨_,rfl,_,_,rfl,rfl,(by rw [sizeLine_eq]; omega),_,rfl,_,_,rfl,rfl,mul_ok (by omega) (by omega),_,_,rfl,rfl,(by rw [lapp,sizeLine_eq]; omega),?_⟩
  have hTl:(Txt.mul (c5P s) (m:Nat)++T0++Txt.mul ")" (m:Nat)).length≤15000:=by rw [lapp,lapp]; omega
  have hTc:(Txt.mul (c5P s) (m:Nat)++T0++Txt.mul ")" (m:Nat)).cps.toList=c5T s T0.cps.toList m:=by
    rw [capp,capp,mul_cps,mul_cps]
    rfl
  generalize Txt.mul (c5P s) (m:Nat)++T0++Txt.mul ")" (m:Nat)=T at hTl hTc ⊢
  have hG:=c5_ln s m names G0
  rw [← hTc] at hG
  have hL:Ln names false (c5D s d0 m) T.cps.toList∨T.cps.toList.getLast?≠some 41:=by
    by_cases h0:0<m
    · exact .inl (hG.2 h0)
    · refine .inr ?_
      rw [hTc,show m=0 by omega,c5_zero]
      exact hl0
  obtain ⟨k1,k2,k3⟩:=c5_dk (d:=d0) s (by omega) m
  refine ⟨_,rfl,_,rfl,_,_,rfl,rfl,_,_,rfl,rfl,_,rfl,ite2 (fun c=>?_) (fun c=>?_)⟩
  · have c:(40:Int)<(m:Nat)+(lev:Nat):=of_decide_eq_true c
    refine ⟨_,rfl,(by show 2≤sizeLine; decide),fun p3 hp3=>q p3 _ ⟨T,_,c5D s d0 m,upd_same,s1.trans (same_new hp3 _),hTl,hG.1,hL,by omega,fun _=>rfl,fun h=>?_⟩⟩
    rw [grt_deep (by omega)] at h
    cases h
  have c:¬ (40:Int)<(m:Nat)+(lev:Nat):=of_decide_eq_false (Bool.eq_false_iff.mpr c)
  have hb:bigD d0=false:=by
    cases e:bigD d0 with
    | false=>rfl
    | true=>have:=hb0 e; omega
  have hg:grtD (c5D s d0 m)=false:=grt_of (a:=40) (by omega) rfl (k3.trans hb) (by omega) (by omega) rfl
  refine ⟨_,rfl,((m:Nat):Int),rfl,(by show -(2 ^ 62)≤((m:Nat):Int); omega),(by show ((m:Nat):Int)<2 ^ 62; omega),?_⟩
  rw [show ((m:Nat):Int).toNat=m by omega]
  refine for_by m (fun j σ' H'=>∃ (v:V) (kv:Option V),σ'=[some (.int (m:Nat)),some (.int (s:Nat)),some (.str T),some v,some (.int (lev:Nat)),kv]∧Same H H'∧Rep H' (c5D s d0 j) v) ⟨_,_,rfl,s1,r0.mono s1⟩ ?_ ?_
  · rintro j σ' H4 hj ⟨v,kv,rfl,s4,r4⟩
    refine ⟨hj,?_⟩
    rintro x' H5 ⟨rfl,rfl⟩
    refine ⟨_,rfl,rfl,_,rfl,ite2 (fun c0=>?_) (fun c0=>?_)⟩
    · have c0:s=0:=by have:=of_decide_eq_true c0; injection this with this; omega
      refine ⟨_,rfl,(by show 2≤sizeLine; decide),fun p6 hp6=>?_⟩
      have t6:=same_new hp6 (.tup [V.str "next",v])
      refine ⟨_,_,rfl,s4.trans t6,?_⟩
      unfold c5D
      rw [if_pos c0]
      exact rep_tup upd_same (by decide +kernel) (reps1 (r4.mono t6))
    have n0:s≠0:=fun e=>c0 (decide_eq_true (by rw [e]; rfl))
    refine ⟨_,rfl,rfl,_,rfl,ite2 (fun c1=>?_) (fun c1=>?_)⟩
    · have c1:s=1:=by have:=of_decide_eq_true c1; injection this with this; omega
      refine ⟨(by show 1≤sizeLine; decide),fun p5 hp5=>?_⟩
      have t5:=same_new hp5 (.tup [V.str "nat"])
      have r5:Rep (upd H5 p5 (.tup [V.str "nat"])) natD (.ref p5):=rep_tup upd_same (by decide +kernel) rfl
      refine ⟨_,rfl,(by show 3≤sizeLine; decide),fun p6 hp6=>?_⟩
      have t6:=same_new hp6 (.tup [V.str "fun",.ref p5,v])
      refine ⟨_,_,rfl,s4.trans (t5.trans t6),?_⟩
      unfold c5D
      rw [if_neg n0,if_pos c1]
      exact rep_tup upd_same (by decide +kernel) (reps2 (r5.mono t6) (r4.mono (t5.trans t6)))
    · have n1':s≠1:=fun e=>c1 (decide_eq_true (by rw [e]; rfl))
      refine ⟨_,rfl,(by show 2≤sizeLine; decide),fun p6 hp6=>?_⟩
      have t6:=same_new hp6 (.tup [V.str "first",v])
      refine ⟨_,_,rfl,s4.trans t6,?_⟩
      unfold c5D
      rw [if_neg n0,if_neg n1']
      exact rep_tup upd_same (by decide +kernel) (reps1 (r4.mono t6))
  · rintro σ' H4 ⟨v,kv,rfl,s4,r4⟩
    refine ⟨Nat.le_refl _,?_⟩
    refine ⟨_,rfl,_,rfl,(by show 2≤sizeLine; decide),fun p4 hp4=>q p4 _ ⟨T,v,c5D s d0 m,upd_same,s4.trans (same_new hp4 _),hTl,hG.1,hL,by omega,fun h=>?_,fun _=>r4.mono (same_new hp4 _)⟩⟩
    rw [hg] at h
    cases h
end K55
end
section
set_option maxHeartbeats 4000000
namespace K55
open PySem L2 L3 KM PyProof.Rows
seal L2.PE L2.PS L2.PSs L2.PT L2.PW L2.PA L2.PG L2.PGs L2.PI L2.PC L2.PO L2.PPs L2.PK L3.PIf L3.PEp L3.PSp L3.PSsp L3.PSg L3.PH L3.PB
variable {P:Program} {w:World} {K:PySem.W.Frag} {mg:Str→Option Value} {base:Heap} {t:Adr}
theorem two_pow {j:Nat} (h:j≤9):2 ^ j≤512:=Nat.pow_le_pow_right (n:=2) (by decide) h
def spTre:Sp:=fun vs H Q _=>∃ (m k0 lev:Nat) (T0:Str) (v0:V) (d0:D) (names:List Str),vs=[.int (m:Nat),.str T0,v0,.int (k0:Nat),.int (lev:Nat)]∧1≤m∧m≤9∧T0.length≤9∧Rep H d0 v0∧knots d0=k0∧k0≤40∧depth d0≤lev∧lev≤100∧(40<lev+m→40<depth d0+m)∧bigD d0=false∧Tg names false d0 T0.cps.toList ∧
  ∀ (r:Addr) (H':Hp) (T:Str) (v:V),H' r=some (.tup [.str T,v])→Same H H'→T.cps.toList=t5T T0.cps.toList m→(grtD (t5D d0 m)=false→Rep H' (t5D d0 m) v)→Pr names r H H'→Q (.ref r) H'
theorem sc_law_tree:FnScope ["_law_many", "_law_line", "_law_thing", "_law_knots", "_law_levels", "_law_k"] ["_law_many", "_law_line", "_law_thing", "_law_knots", "_law_levels"] (defScope s_law_tree):=⟨rfl,rfl,rfl,by decide +kernel,rfl,by decide +kernel,by decide +kernel⟩
theorem c_law_tre (D:Df K mg "_law_tree" s_law_tree ["_law_many", "_law_line", "_law_thing", "_law_knots", "_law_levels"]) (M:Mg mg t):Cal P w K mg CX0 "_law_tree" (1) ["_law_many", "_law_line", "_law_thing", "_law_knots", "_law_levels"] spTre:=by
  refine D.ok sc_law_tree (fun vs H Q E h=>?_) (fun base f cdv A outer s H vs Q E hr h=>?_)
  · obtain ⟨m,k0,lev,T0,v0,d0,names,rfl,_⟩:=h
    rfl
  obtain ⟨m,k0,lev,T0,v0,d0,names,rfl,hm1,hm2,hT0,r0,hk0,hk40,hd0,hlev,hdp,hb0,G0,q⟩:=h
  refine ⟨_,(pss_cons (ps_for PassesOwn.never rfl (pi_range1 rfl M.n_range (pa_cons (pv 0) pa_nil)) (pg_name (i:=5) sc_law_tree.nd rfl (by first | exact Or.inl rfl | exact Or.inr rfl)) (pss_cons (ps_set (i:=1) sc_law_tree.nd rfl (by first | exact Or.inl rfl | exact Or.inr rfl) (pe_op op_add_str (pe_op op_add_str (pe_op op_add_str (pe_op op_add_str pe_str (pv 1)) pe_str) (pv 1)) pe_str))
      (pss_cons (ps_set (i:=2) sc_law_tree.nd rfl (by first | exact Or.inl rfl | exact Or.inr rfl) (pe_tup (pa_cons pe_str (pa_cons (pv 2) (pa_cons (pv 2) pa_nil)))))
      (pss_one (ps_set (i:=3) sc_law_tree.nd rfl (by first | exact Or.inl rfl | exact Or.inr rfl) (pe_op op_add (pe_op op_mul pe_int (pv 3)) pe_int))))))
      (pss_cons (ps_if (L2.PW.pt (pw_or (pt_cmpR op_gt (pv 3) pe_int (nomark _)) (pw_or1 (pt_cmpR op_gt (pe_op op_add (pv 4) (pv 0)) pe_int (nomark _))))) (pss_one (ps_ret (pe_tup (pa_cons (pv 1) (pa_cons pe_str pa_nil))))) pss_nil)
      (pss_one (ps_ret (pe_tup (pa_cons (pv 1) (pa_cons (pv 2) pa_nil))))))),?_⟩
  try dsimp only [cxK,cxK2]
  refine let3 ?_
  intro _ _ _
  refine ⟨_,rfl,((m:Nat):Int),rfl,(by show -(2 ^ 62)≤((m:Nat):Int); omega),(by show ((m:Nat):Int)<2 ^ 62; omega),?_⟩
  rw [show ((m:Nat):Int).toNat=m by omega]
  have n1:(Str.ofString "(app ").length=5:=by decide +kernel
  have n2:(Str.ofString " ").length=1:=by decide +kernel
  have n3:(Str.ofString ")").length=1:=by decide +kernel
  have hlen:∀ j:Nat,j≤9→(t5T T0.cps.toList j).length≤8192:=fun j hj=>by
    have h1:=t5_len T0.cps.toList j
    have h2:2 ^ j*(T0.cps.toList.length+7)≤512*16:=Nat.mul_le_mul (two_pow hj) (by rw [← str_len]; omega)
    omega
  have hnum:∀ j:Nat,j≤9→t5N k0 j≤20992:=fun j hj=>by
    have h1:=t5_num k0 j
    have h2:2 ^ j*(k0+1)≤512*41:=Nat.mul_le_mul (two_pow hj) (by omega)
    omega
  refine for_by m (fun j σ' H'=>∃ (L:Str) (v:V) (kv:Option V),σ'=[some (.int (m:Nat)),some (.str L),some v,some (.int (t5N k0 j:Nat)),some (.int (lev:Nat)),kv]∧Same H H'∧L.cps.toList=t5T T0.cps.toList j∧Rep H' (t5D d0 j) v) ⟨_,_,_,rfl,Same.refl H,rfl,r0⟩ ?_ ?_
  · rintro j σ' H4 hj ⟨L,v,kv,rfl,s4,hL,r4⟩
    refine ⟨hj,?_⟩
    rintro x' H5 ⟨rfl,rfl⟩
    have hl:=hlen j (by omega)
    have hk:=hnum j (by omega)
    rw [← hL,← str_len] at hl
    refine ⟨_,rfl,_,_,rfl,rfl,(by rw [sizeLine_eq]; omega),_,_,rfl,rfl,(by rw [lapp,sizeLine_eq]; omega),_,rfl,_,_,rfl,rfl,(by rw [lapp,lapp,sizeLine_eq]; omega),_,_,rfl,rfl,(by rw [lapp,lapp,lapp,sizeLine_eq]; omega),?_⟩
    refine ⟨_,rfl,_,rfl,(by show 3≤sizeLine; decide),fun p6 hp6=>?_⟩
    have t6:=same_new hp6 (.tup [V.str "app",v,v])
    refine ⟨_,rfl,_,_,rfl,rfl,?_,_,_,rfl,rfl,?_⟩
    · exact .inl ⟨by decide,by decide⟩
    · refine ⟨_,_,_,rfl,s4.trans t6,?_,rep_tup upd_same (by decide +kernel) (reps2 (r4.mono t6) (r4.mono t6))⟩
      rw [capp,capp,capp,capp,hL]
      rfl
  · rintro σ' H4 ⟨L,v,kv,rfl,s4,hL,r4⟩
    refine ⟨Nat.le_refl _,?_⟩
    have hl:=hlen m hm2
    have hk:=hnum m hm2
    obtain ⟨k1,k2,k3⟩:=t5_dk d0 m
    rw [hk0] at k2
    rw [← hL,← str_len] at hl
    have hG:=t5_ln G0 m
    rw [← hL] at hG
    have hLn:=hG.2 (by omega)
    have fin1:∀ (p3:Addr),H4 p3=none→grtD (t5D d0 m)=true→Q (.ref p3) (upd H4 p3 (.tup [.str L,.str "great"])):=fun p3 hp3 hg =>
      q p3 _ L _ upd_same (s4.trans (same_new hp3 _)) hL (fun h=>by rw [hg] at h; cases h) ⟨L,_,t5D d0 m,upd_same,s4.trans (same_new hp3 _),by omega,hG.1,.inl hLn,by omega,fun _=>rfl,fun h=>by rw [hg] at h; cases h⟩
    refine ⟨_,rfl,_,_,rfl,rfl,_,rfl,ite2 (fun c=>?_) (fun c=>?_)⟩
    · have c:(600:Int)<(t5N k0 m:Nat):=of_decide_eq_true c
      exact iteT ⟨_,rfl,(by show 2≤sizeLine; decide),fun p3 hp3=>fin1 p3 hp3 (grt_many (by omega))⟩
    have c:¬ (600:Int)<(t5N k0 m:Nat):=of_decide_eq_false (Bool.eq_false_iff.mpr c)
    refine ⟨_,rfl,_,rfl,_,_,rfl,rfl,_,_,rfl,rfl,_,rfl,ite2 (fun c1=>?_) (fun c1=>?_)⟩
    · have c1:(40:Int)<(lev:Nat)+(m:Nat):=of_decide_eq_true c1
      exact ⟨_,rfl,(by show 2≤sizeLine; decide),fun p3 hp3=>fin1 p3 hp3 (grt_deep (by have:=hdp (by omega); omega))⟩
    have c1:¬ (40:Int)<(lev:Nat)+(m:Nat):=of_decide_eq_false (Bool.eq_false_iff.mpr c1)
    have hg:grtD (t5D d0 m)=false:=grt_of (Nat.le_of_eq k1) k2 (k3.trans hb0) (by omega) (by omega) rfl
    refine ⟨_,rfl,_,rfl,(by show 2≤sizeLine; decide),fun p3 hp3=>q p3 _ L v upd_same (s4.trans (same_new hp3 _)) hL (fun _=>r4.mono (same_new hp3 _)) ⟨L,v,t5D d0 m,upd_same,s4.trans (same_new hp3 _),by omega,hG.1,.inl hLn,by omega,fun h=>?_,fun _=>r4.mono (same_new hp3 _)⟩⟩
    rw [hg] at h
    cases h
def spFar:Sp:=fun vs H Q _=>∃ (n o:Nat),vs=[.int (n:Nat),.int (o:Nat)]∧n<106∧o<4∧∀ (r:Addr) (H':Hp),Pr vnames r H H'→Q (.ref r) H'
def abcS:Str := "abcdefghijklmnopqrstuvwxyz"
theorem abc_at {k:Nat} (h:k<26):atI abcS.cps.toList ((k:Nat):Int)=some (97+k):=by
  refine atI_nat ?_
  have:=List.all_eq_true.mp (show ((List.range 26).all fun k=>decide (abcS.cps.toList[k]?=some (97+k)))=true by decide +kernel) k (List.mem_range.mpr h)
  exact of_decide_eq_true this
theorem sc_law_far:FnScope ["_law_number", "_law_over", "_law_some", "_law_line", "_law_thing", "_law_k"] ["_law_number", "_law_over"] (defScope s_law_far):=⟨rfl,rfl,rfl,by decide +kernel,rfl,by decide +kernel,by decide +kernel⟩
theorem c_law_far (D:Df K mg "_law_far" s_law_far ["_law_number", "_law_over"]) (M:Mg mg t):Cal P w K mg CX0 "_law_far" (1) ["_law_number", "_law_over"] spFar:=by
  refine D.ok sc_law_far (fun vs H Q E h=>?_) (fun base f cdv A outer s H vs Q E hr h=>?_)
  · obtain ⟨n,o,rfl,_⟩:=h
    rfl
  obtain ⟨n,o,rfl,hn,ho,q⟩:=h
  refine ⟨_,(pss_cons (ps_set (i:=2) sc_law_far.nd rfl (by first | exact Or.inl rfl | exact Or.inr rfl) pe_str)
      (pss_cons (ps_set (i:=3) sc_law_far.nd rfl (by first | exact Or.inl rfl | exact Or.inr rfl) (pe_op op_add_str (pe_op op_add_str (pe_op op_add_str pe_str (pe_ix ix_str (pv 2) (pe_op op_mod (pv 0) pe_int) (fun _ _=>rfl))) (pe_ix ix_str (pv 2) (pe_op op_fdiv (pv 0) pe_int) (fun _ _=>rfl))) pe_str))
      (pss_cons (ps_set (i:=4) sc_law_far.nd rfl (by first | exact Or.inl rfl | exact Or.inr rfl) (pe_tup (pa_cons pe_str (pa_cons (pe_tup (pa_cons pe_str (pa_cons (pe_op op_add (pv 0) (pv 1)) pa_nil))) pa_nil))))
      (pss_cons (ps_for PassesOwn.never rfl (pi_range1 rfl M.n_range (pa_cons (pv 1) pa_nil)) (pg_name (i:=5) sc_law_far.nd rfl (by first | exact Or.inl rfl | exact Or.inr rfl)) (pss_cons (ps_set (i:=3) sc_law_far.nd rfl (by first | exact Or.inl rfl | exact Or.inr rfl) (pe_op op_add_str (pe_op op_add_str pe_str (pv 3)) pe_str))
      (pss_one (ps_set (i:=4) sc_law_far.nd rfl (by first | exact Or.inl rfl | exact Or.inr rfl) (pe_tup (pa_cons pe_str (pa_cons (pe_tup (pa_cons pe_str pa_nil)) (pa_cons (pv 4) pa_nil))))))))
      (pss_cons (ps_if (pt_cmpR op_gt (pe_op op_add (pv 0) (pv 1)) pe_int (nomark _)) (pss_one (ps_ret (pe_tup (pa_cons (pv 3) (pa_cons pe_str pa_nil))))) pss_nil)
      (pss_one (ps_ret (pe_tup (pa_cons (pv 3) (pa_cons (pv 4) pa_nil)))))))))),?_⟩
  try dsimp only [cxK,cxK2]
  refine let6 ?_
  intro _ _ _ _ _ _
  have e1:((n:Nat):Int) % 26=((n % 26:Nat):Int):=by omega
  have e2:((n:Nat):Int) / 26=((n / 26:Nat):Int):=by omega
  have n1:(Str.ofString "(next v").length=7:=by decide +kernel
  have n2:(Str.ofString ")").length=1:=by decide +kernel
  have n3:abcS.length=26:=by decide +kernel
  have n4:∀ c:Nat,(⟨#[c]⟩:Str).length=1:=fun _=>rfl
  have n5:(Str.ofString "(fun b nat ").length=11:=by decide +kernel
  refine ⟨_,rfl,_,rfl,_,_,rfl,rfl,(by show (0:Int)<26; decide),abcS,_,97+n % 26,rfl,rfl,big (by omega),(by rw [e1]; exact abc_at (by omega)),_,_,rfl,rfl,big (by rw [n4]; omega),?_⟩
  refine ⟨_,rfl,_,rfl,_,_,rfl,rfl,⟨by decide,by decide⟩,abcS,_,97+n / 26,rfl,rfl,big (by omega),(by rw [e2]; exact abc_at (by omega)),_,_,rfl,rfl,big (by rw [lapp,n4,n4]; omega),_,_,rfl,rfl,big (by rw [lapp,lapp,n4,n4]; omega),?_⟩
  have hT0:(Str.ofString "(next v" ++ (⟨#[97+n % 26]⟩:Str)++(⟨#[97+n / 26]⟩:Str)++Str.ofString ")").cps.toList=f5T n 0:=by
    rw [capp,capp,capp]
    rfl
  generalize Str.ofString "(next v" ++ (⟨#[97+n % 26]⟩:Str)++(⟨#[97+n / 26]⟩:Str)++Str.ofString ")" = T0 at hT0 ⊢
  refine ⟨_,rfl,_,rfl,_,_,rfl,rfl,(by show 2≤sizeLine; decide),fun p2 hp2=>?_⟩
  have t2:=same_new hp2 (.tup [V.str "var",.int ((n:Int)+(o:Int))])
  have r2:Rep (upd H p2 (.tup [V.str "var",.int ((n:Int)+(o:Int))])) (.tup [.str "var",.int ((n+o:Nat):Int)]) (.ref p2):=rep_tup upd_same (by decide +kernel) (reps1 rfl)
  generalize upd H p2 (.tup [V.str "var",.int ((n:Int)+(o:Int))])=H2 at t2 r2 ⊢
  refine ⟨(by show 2≤sizeLine; decide),fun p4 hp4=>?_⟩
  have t4:=same_new hp4 (.tup [V.str "next",.ref p2])
  have r4:Rep (upd H2 p4 (.tup [V.str "next",.ref p2])) (f5D n o 0) (.ref p4):=rep_tup upd_same (by decide +kernel) (reps1 (r2.mono t4))
  have s4:=t2.trans t4
  generalize upd H2 p4 (.tup [V.str "next",.ref p2])=H4 at s4 r4 ⊢
  refine ⟨_,rfl,((o:Nat):Int),rfl,(by show -(2 ^ 62)≤((o:Nat):Int); omega),(by show ((o:Nat):Int)<2 ^ 62; omega),?_⟩
  rw [show ((o:Nat):Int).toNat=o by omega]
  have hlen:∀ j:Nat,(f5T n j).length=10+12*j:=fun j=>by
    induction j with
    | zero =>
      show (cl "(next v" ++ [97+n % 26]++[97+n / 26]++cl ")").length=10
      rw [List.length_append,List.length_append,List.length_append,show (cl "(next v").length=7 by decide +kernel,show (cl ")").length=1 by decide +kernel]
      rfl
    | succ j ih =>
      show (cl "(fun b nat " ++ f5T n j++cl ")").length=_
      rw [List.length_append,List.length_append,ih,show (cl "(fun b nat ").length=11 by decide +kernel,show (cl ")").length=1 by decide +kernel]
      omega
  refine for_by o (fun j σ' H'=>∃ (L:Str) (v:V) (kv:Option V),σ'=[some (.int (n:Nat)),some (.int (o:Nat)),some (.str abcS),some (.str L),some v,kv]∧Same H H'∧L.cps.toList=f5T n j∧Rep H' (f5D n o j) v) ⟨_,_,_,rfl,s4,hT0,r4⟩ ?_ ?_
  · rintro j σ' H5 hj ⟨L,v,kv,rfl,s5,hL,r5⟩
    refine ⟨hj,?_⟩
    rintro x' H6 ⟨rfl,rfl⟩
    have hl:L.length=10+12*j:=by rw [str_len,hL,hlen]
    refine ⟨_,rfl,_,_,rfl,rfl,big (by omega),_,_,rfl,rfl,big (by rw [lapp]; omega),?_⟩
    refine ⟨(by show 1≤sizeLine; decide),fun p7 hp7=>?_⟩
    have t7:=same_new hp7 (.tup [V.str "nat"])
    have r7:Rep (upd H6 p7 (.tup [V.str "nat"])) natD (.ref p7):=rep_tup upd_same (by decide +kernel) rfl
    refine ⟨_,rfl,(by show 3≤sizeLine; decide),fun p8 hp8=>?_⟩
    have t8:=same_new hp8 (.tup [V.str "fun",.ref p7,v])
    refine ⟨_,_,_,rfl,s5.trans (t7.trans t8),?_,rep_tup upd_same (by decide +kernel) (reps2 (r7.mono t8) (r5.mono (t7.trans t8)))⟩
    rw [capp,capp,hL]
    rfl
  · rintro σ' H5 ⟨L,v,kv,rfl,s5,hL,r5⟩
    refine ⟨Nat.le_refl _,?_⟩
    have hl:L.length=10+12*o:=by rw [str_len,hL,hlen]
    obtain ⟨k1,k2,k3⟩:=f5_dk n o o
    have hLn:Ln vnames false (f5D n o o) L.cps.toList:=by rw [hL]; exact f5_ln hn o o 0 (by omega) (by omega)
    refine ⟨_,rfl,_,rfl,_,_,rfl,rfl,_,_,rfl,rfl,_,rfl,ite2 (fun c=>?_) (fun c=>?_)⟩
    · have c:(99:Int)<(n:Nat)+(o:Nat):=of_decide_eq_true c
      refine ⟨_,rfl,(by show 2≤sizeLine; decide),fun p3 hp3=>q p3 _ ⟨L,_,f5D n o o,upd_same,s5.trans (same_new hp3 _),by omega,hLn.tg,.inl hLn,by omega,fun _=>rfl,fun h=>?_⟩⟩
      have h:(vastD (f5D n o o) || bigD (f5D n o o))=false:=h
      rw [k3,decide_eq_true (by omega),Bool.or_true] at h
      cases h
    have c:¬ (99:Int)<(n:Nat)+(o:Nat):=of_decide_eq_false (Bool.eq_false_iff.mpr c)
    have hg:grtD (f5D n o o)=false:=grt_of k1 k2 k3 (by omega) (by omega) (decide_eq_false (by omega))
    refine ⟨_,rfl,_,rfl,(by show 2≤sizeLine; decide),fun p3 hp3=>q p3 _ ⟨L,v,f5D n o o,upd_same,s5.trans (same_new hp3 _),by omega,hLn.tg,.inl hLn,by omega,fun h=>?_,fun _=>r5.mono (same_new hp3 _)⟩⟩
    rw [hg] at h
    cases h
end K55
end
section
set_option maxHeartbeats 4000000
namespace K55
open PySem L2 L3 KM PyProof.Rows
seal L2.PE L2.PS L2.PSs L2.PT L2.PW L2.PA L2.PG L2.PGs L2.PI L2.PC L2.PO L2.PPs L2.PK L3.PIf L3.PEp L3.PSp L3.PSsp L3.PSg L3.PH L3.PB
variable {P:Program} {w:World} {K:PySem.W.Frag} {mg:Str→Option Value} {base:Heap} {t:Adr}
theorem rep_v0 {H:Hp} {p:Addr} (h:H p=some (.tup [V.str "var",.int 0])):Rep H v0D (.ref p):=rep_tup h (by decide +kernel) (reps1 rfl)
def spFigs:Sp:=fun vs H Q _=>∃ (n:Nat),vs=[.int (n:Nat)]∧n≤40∧∀ (v:V) (H':Hp),Same H H'→Rep H' (cntD n) v→Q v H'
theorem sc_law_figures:FnScope ["_law_number", "_law_thing", "_law_k"] ["_law_number"] (defScope s_law_figures):=⟨rfl,rfl,rfl,by decide +kernel,rfl,by decide +kernel,by decide +kernel⟩
theorem c_law_figures (D:Df K mg "_law_figures" s_law_figures ["_law_number"]) (M:Mg mg t):Cal P w K mg CX0 "_law_figures" (1) ["_law_number"] spFigs:=by
  refine D.ok sc_law_figures (fun vs H Q E h=>?_) (fun base f cdv A outer s H vs Q E hr h=>?_)
  · obtain ⟨n,rfl,_⟩:=h
    rfl
  obtain ⟨n,rfl,hn,q⟩:=h
  refine ⟨_,(pss_cons (ps_set (i:=1) sc_law_figures.nd rfl (by first | exact Or.inl rfl | exact Or.inr rfl) (pe_tup (pa_cons pe_str pa_nil)))
      (pss_cons (ps_for PassesOwn.never rfl (pi_range1 rfl M.n_range (pa_cons (pv 0) pa_nil)) (pg_name (i:=2) sc_law_figures.nd rfl (by first | exact Or.inl rfl | exact Or.inr rfl)) (pss_one (ps_set (i:=1) sc_law_figures.nd rfl (by first | exact Or.inl rfl | exact Or.inr rfl) (pe_tup (pa_cons pe_str (pa_cons (pv 1) pa_nil))))))
      (pss_one (ps_ret (pv 1))))),?_⟩
  try dsimp only [cxK,cxK2]
  refine let3 ?_
  intro _ _ _
  refine ⟨(by show 1≤sizeLine; decide),fun p0 hp0=>?_⟩
  have t0:=same_new hp0 (.tup [V.str "zero"])
  have r0:Rep (upd H p0 (.tup [V.str "zero"])) (cntD 0) (.ref p0):=rep_tup upd_same (by decide +kernel) rfl
  generalize upd H p0 (.tup [V.str "zero"])=H0 at t0 r0 ⊢
  refine ⟨_,rfl,_,rfl,(by show -(2 ^ 62)≤((n:Nat):Int); omega),(by show ((n:Nat):Int)<2 ^ 62; omega),?_⟩
  rw [show ((n:Nat):Int).toNat=n by omega]
  refine for_by n (fun j σ' H'=>∃ (v:V) (kv:Option V),σ'=[some (.int (n:Nat)),some v,kv]∧Same H H'∧Rep H' (cntD j) v) ⟨_,_,rfl,t0,r0⟩ ?_ ?_
  · rintro j σ' H4 hj ⟨v,kv,rfl,s4,r4⟩
    refine ⟨hj,?_⟩
    rintro x' H5 ⟨rfl,rfl⟩
    refine ⟨_,rfl,(by show 2≤sizeLine; decide),fun p6 hp6=>?_⟩
    have t6:=same_new hp6 (.tup [V.str "next",v])
    exact ⟨_,_,rfl,s4.trans t6,rep_tup upd_same (by decide +kernel) (reps1 (r4.mono t6))⟩
  · rintro σ' H4 ⟨v,kv,rfl,s4,r4⟩
    exact ⟨Nat.le_refl _,_,rfl,q v H4 s4 r4⟩
def spNexts:Sp:=fun vs H Q _=>∃ (k:Nat),vs=[.int (k:Nat)]∧1≤k∧k≤30∧∀ (r:Addr) (H':Hp) (T:Str) (v:V),H' r=some (.tup [.str T,v])→Same H H'→T.cps.toList=nxT (cl "a") (k-1)→Rep H' (nxD v0D (k-1)) v→Q (.ref r) H'
theorem sc_law_nexts:FnScope ["_law_knots", "_law_thing", "_law_k"] ["_law_knots"] (defScope s_law_nexts):=⟨rfl,rfl,rfl,by decide +kernel,rfl,by decide +kernel,by decide +kernel⟩
theorem c_law_nexts (D:Df K mg "_law_nexts" s_law_nexts ["_law_knots"]) (M:Mg mg t):Cal P w K mg CX0 "_law_nexts" (1) ["_law_knots"] spNexts:=by
  refine D.ok sc_law_nexts (fun vs H Q E h=>?_) (fun base f cdv A outer s H vs Q E hr h=>?_)
  · obtain ⟨k,rfl,_⟩:=h
    rfl
  obtain ⟨k,rfl,hk1,hk2,q⟩:=h
  refine ⟨_,(pss_cons (ps_set (i:=1) sc_law_nexts.nd rfl (by first | exact Or.inl rfl | exact Or.inr rfl) (pe_tup (pa_cons pe_str (pa_cons pe_int pa_nil))))
      (pss_cons (ps_for PassesOwn.never rfl (pi_range1 rfl M.n_range (pa_cons (pe_op op_sub (pv 0) pe_int) pa_nil)) (pg_name (i:=2) sc_law_nexts.nd rfl (by first | exact Or.inl rfl | exact Or.inr rfl)) (pss_one (ps_set (i:=1) sc_law_nexts.nd rfl (by first | exact Or.inl rfl | exact Or.inr rfl) (pe_tup (pa_cons pe_str (pa_cons (pv 1) pa_nil))))))
      (pss_one (ps_ret (pe_tup (pa_cons (pe_op op_add_str (pe_op op_add_str (pe_op op_repS pe_str (pe_op op_sub (pv 0) pe_int)) pe_str) (pe_op op_repS pe_str (pe_op op_sub (pv 0) pe_int))) (pa_cons (pv 1) pa_nil))))))),?_⟩
  try dsimp only [cxK,cxK2]
  refine let3 ?_
  intro _ _ _
  have ek:((k:Nat):Int)-1=((k-1:Nat):Int):=by omega
  refine ⟨(by show 2≤sizeLine; decide),fun p1 hp1=>?_⟩
  have t1:=same_new hp1 (.tup [V.str "var",.int 0])
  have r1:Rep (upd H p1 (.tup [V.str "var",.int 0])) v0D (.ref p1):=rep_v0 upd_same
  generalize upd H p1 (.tup [V.str "var",.int 0])=H1 at t1 r1 ⊢
  refine ⟨_,rfl,_,_,rfl,rfl,((k-1:Nat):Int),(by show [V.int ((k:Int)-1)]=_; rw [ek]),(by show -(2 ^ 62)≤((k-1:Nat):Int); omega),(by show ((k-1:Nat):Int)<2 ^ 62; omega),?_⟩
  rw [show ((k-1:Nat):Int).toNat=k-1 by omega]
  refine for_by (k-1) (fun j σ' H'=>∃ (v:V) (kv:Option V),σ'=[some (.int (k:Nat)),some v,kv]∧Same H H'∧Rep H' (nxD v0D j) v) ⟨_,_,rfl,t1,r1⟩ ?_ ?_
  · rintro j σ' H4 hj ⟨v,kv,rfl,s4,r4⟩
    refine ⟨hj,?_⟩
    rintro x' H5 ⟨rfl,rfl⟩
    refine ⟨_,rfl,(by show 2≤sizeLine; decide),fun p6 hp6=>?_⟩
    have t6:=same_new hp6 (.tup [V.str "next",v])
    exact ⟨_,_,rfl,s4.trans t6,rep_tup upd_same (by decide +kernel) (reps1 (r4.mono t6))⟩
  · rintro σ' H4 ⟨v,kv,rfl,s4,r4⟩
    refine ⟨Nat.le_refl _,?_⟩
    have m1:=mul_len "(next " (k-1)
    have m2:=mul_len ")" (k-1)
    have n1:(Str.ofString "(next ").length=6:=by decide +kernel
    have n2:(Str.ofString ")").length=1:=by decide +kernel
    have n3:(Str.ofString "a").length=1:=by decide +kernel
    rw [n1] at m1
    rw [n2] at m2
    refine ⟨_,rfl,_,_,rfl,rfl, "(next ",((k:Nat):Int)-1,rfl,rfl,(by rw [ek]; exact mul_ok (by omega) (by omega)),_,_,rfl,rfl,(by rw [ek]; exact big (by omega)),?_⟩
    refine ⟨_,rfl,_,_,rfl,rfl, ")",((k:Nat):Int)-1,rfl,rfl,(by rw [ek]; exact mul_ok (by omega) (by omega)),_,_,rfl,rfl,(by rw [ek,lapp]; exact big (by omega)),?_⟩
    refine ⟨_,rfl,(by show 2≤sizeLine; decide),fun p6 hp6=>q p6 _ _ v upd_same (s4.trans (same_new hp6 _)) ?_ (r4.mono (same_new hp6 _))⟩
    rw [ek,capp,capp,mul_cps,mul_cps]
    rfl
def spNear:Sp:=fun vs H Q _=>∃ (k:Nat),vs=[.int (k:Nat)]∧1≤k∧k≤30∧∀ (r:Addr) (H':Hp),Pr ["a"] r H H'→Q (.ref r) H'
theorem sc_law_near:FnScope ["_law_knots", "_law_tree_here", "_law_some", "_law_line"] ["_law_knots"] (defScope s_law_near):=⟨rfl,rfl,rfl,by decide +kernel,rfl,by decide +kernel,by decide +kernel⟩
theorem c_law_near (D:Df K mg "_law_near" s_law_near ["_law_knots"]) (M:Mg mg t) (F_law_tree:Cal P w K mg CX0 "_law_tree" (1) ["_law_many", "_law_line", "_law_thing", "_law_knots", "_law_levels"] spTre) (F_law_nexts:Cal P w K mg CX0 "_law_nexts" (1) ["_law_knots"] spNexts):Cal P w K mg CX0 "_law_near" (2) ["_law_knots"] spNear:=by
  refine D.ok sc_law_near (fun vs H Q E h=>?_) (fun base f cdv A outer s H vs Q E hr h=>?_)
  · obtain ⟨k,rfl,_⟩:=h
    rfl
  obtain ⟨k,rfl,hk1,hk2,q⟩:=h
  refine ⟨_,(pss_cons (ps_set (i:=1) sc_law_near.nd rfl (by first | exact Or.inl rfl | exact Or.inr rfl) (pe_fn F_law_tree (hr.mono (by omega)) rfl pass0 (pa_cons pe_int (pa_cons pe_str (pa_cons (pe_tup (pa_cons pe_str (pa_cons pe_int pa_nil))) (pa_cons pe_int (pa_cons pe_int pa_nil)))))))
      (pss_cons (ps_set (i:=2) sc_law_near.nd rfl (by first | exact Or.inl rfl | exact Or.inr rfl) (pe_lst (pa_cons (pe_fn F_law_nexts (hr.mono (by omega)) rfl pass0 (pa_cons pe_int pa_nil)) (pa_cons (pe_fn F_law_nexts (hr.mono (by omega)) rfl pass0 (pa_cons pe_int pa_nil)) (pa_cons (pe_fn F_law_nexts (hr.mono (by omega)) rfl pass0 (pa_cons (pv 0) pa_nil)) pa_nil)))))
      (pss_cons (ps_set (i:=3) sc_law_near.nd rfl (by first | exact Or.inl rfl | exact Or.inr rfl) (pe_op op_add_str (pe_op op_add_str (pe_op op_add_str (pe_op op_add_str pe_str (pe_ix ix_tup (pe_ix ix_list (pv 2) pe_int (fun _ _=>rfl)) pe_int (fun _ _=>rfl))) pe_str) (pe_ix ix_tup (pe_ix ix_list (pv 2) pe_int (fun _ _=>rfl)) pe_int (fun _ _=>rfl))) pe_str))
      (pss_cons (ps_set (i:=3) sc_law_near.nd rfl (by first | exact Or.inl rfl | exact Or.inr rfl) (pe_op op_add_str (pe_op op_add_str (pe_op op_add_str (pe_op op_add_str (pe_op op_add_str (pe_op op_add_str pe_str (pe_ix ix_tup (pv 1) pe_int (fun _ _=>rfl))) pe_str) (pe_ix ix_tup (pe_ix ix_list (pv 2) pe_int (fun _ _=>rfl)) pe_int (fun _ _=>rfl))) pe_str) (pv 3)) pe_str))
      (pss_cons (ps_if (pt_cmpR op_gt (pe_op op_add pe_int (pv 0)) pe_int (nomark _)) (pss_one (ps_ret (pe_tup (pa_cons (pv 3) (pa_cons pe_str pa_nil))))) pss_nil)
      (pss_one (ps_ret (pe_tup (pa_cons (pv 3) (pa_cons (pe_tup (pa_cons pe_str (pa_cons (pe_ix ix_tup (pv 1) pe_int (fun _ _=>rfl)) (pa_cons (pe_tup (pa_cons pe_str (pa_cons (pe_ix ix_tup (pe_ix ix_list (pv 2) pe_int (fun _ _=>rfl)) pe_int (fun _ _=>rfl)) (pa_cons (pe_tup (pa_cons pe_str (pa_cons (pe_ix ix_tup (pe_ix ix_list (pv 2) pe_int (fun _ _=>rfl)) pe_int (fun _ _=>rfl)) (pa_cons (pe_ix ix_tup (pe_ix ix_list (pv 2) pe_int (fun _ _=>rfl)) pe_int (fun _ _=>rfl)) pa_nil)))) pa_nil)))) pa_nil)))) pa_nil)))))))))),?_⟩
  try dsimp only [cxK,cxK2]
  refine let6 ?_
  intro _ _ _ _ _ _
  refine ⟨(by show 2≤sizeLine; decide),fun p1 hp1=>?_⟩
  have t0:=same_new hp1 (.tup [V.str "var",.int 0])
  have r0:Rep (upd H p1 (.tup [V.str "var",.int 0])) v0D (.ref p1):=rep_v0 upd_same
  generalize upd H p1 (.tup [V.str "var",.int 0])=H0 at t0 r0 ⊢
  refine ⟨8,1,1, "a",.ref p1,v0D,["a"],rfl,by decide,by decide,by decide +kernel,r0,by kernel_rfl,by decide,by decide +kernel,by decide,fun h=>absurd h (by decide),by kernel_rfl,tg_a,fun rt H1 T8 v8 h8 s1 c8 y8 _=>?_⟩
  have y8:=y8 (by decide +kernel)
  refine ⟨30,rfl,by decide,by decide,fun r1 H2 T1 v1 h1 s2 c1 y1=>?_⟩
  refine ⟨30,rfl,by decide,by decide,fun r2 H3 T2 v2 h2 s3 c2 y2=>?_⟩
  refine ⟨_,rfl,k,rfl,hk1,hk2,fun r3 H4 T3 v3 h3 s4 c3 y3=>?_⟩
  refine ⟨(by show 3≤sizeLine; decide),fun ps hps=>?_⟩
  have t5:=same_new hps (.lst [V.ref r1,.ref r2,.ref r3])
  have h5:(upd H4 ps (.lst [V.ref r1,.ref r2,.ref r3])) ps=some (.lst [V.ref r1,.ref r2,.ref r3]):=upd_same
  generalize upd H4 ps (.lst [V.ref r1,.ref r2,.ref r3])=H5 at t5 h5 ⊢
  have s25:=s3.trans (s4.trans t5)
  have h85:=s25 _ _ (s2 _ _ h8)
  have h15:=s25 _ _ h1
  have h25:=t5 _ _ (s4 _ _ h2)
  have h35:=t5 _ _ h3
  have y8:=y8.mono (s2.trans s25)
  have y1:=y1.mono s25
  have y2:=y2.mono (s4.trans t5)
  have y3:=y3.mono t5
  have s05:=(t0.trans s1).trans (s2.trans s25)
  have a8:T8.length≤7000:=by
    have:=t5_len (cl "a") 8
    rw [show cl "a" = (Str.ofString "a").cps.toList from rfl,← c8,← str_len,show (Str.ofString "a").cps.toList.length=1 by decide +kernel] at this
    omega
  have nlen:∀ j:Nat,(nxT (cl "a") j).length=7*j+1:=fun j=>by
    unfold nxT
    rw [List.length_append,List.length_append,rep_len,rep_len,show (cl "(next ").length=6 by decide +kernel,show (cl ")").length=1 by decide +kernel,show (cl "a").length=1 by decide +kernel]
    omega
  have a1:T1.length≤210:=by rw [str_len,c1,nlen]; decide
  have a2:T2.length≤210:=by rw [str_len,c2,nlen]; decide
  have a3:T3.length≤210:=by rw [str_len,c3,nlen]; omega
  have n1:(Str.ofString "(app ").length=5:=by decide +kernel
  have n2:(Str.ofString " ").length=1:=by decide +kernel
  have n4:(Str.ofString ")").length=1:=by decide +kernel
  have n6:(Str.ofString " (app ").length=6:=by decide +kernel
  have n7:(Str.ofString "))").length=2:=by decide +kernel
  refine ⟨_,rfl,ps,_,_,_,rfl,rfl,SqL.of h5,atI_nat (j:=1) rfl,r2,_,_,_,rfl,rfl,SqT.of h25,atI_nat (j:=0) rfl,_,_,rfl,rfl,big (by omega),_,_,rfl,rfl,big (by rw [lapp]; omega),?_⟩
  refine ⟨_,rfl,ps,_,_,_,rfl,rfl,SqL.of h5,atI_nat (j:=2) rfl,r3,_,_,_,rfl,rfl,SqT.of h35,atI_nat (j:=0) rfl,_,_,rfl,rfl,big (by simp only [lapp]; omega),_,_,rfl,rfl,big (by simp only [lapp]; omega),?_⟩
  have hI:(Str.ofString "(app " ++ T2++Str.ofString " " ++ T3++Str.ofString ")").length≤1000:=by simp only [lapp]; omega
  have cI:(Str.ofString "(app " ++ T2++Str.ofString " " ++ T3++Str.ofString ")").cps.toList=cl "(app " ++ nxT (cl "a") 29++cl " " ++ nxT (cl "a") (k-1)++cl ")" := by
    simp only [capp,c2,c3]
  generalize Str.ofString "(app " ++ T2++Str.ofString " " ++ T3++Str.ofString ")" = I at hI cI ⊢
  refine ⟨_,rfl,rt,_,_,_,rfl,rfl,SqT.of h85,atI_nat (j:=0) rfl,_,_,rfl,rfl,(by rw [sizeLine_eq]; omega),_,_,rfl,rfl,(by rw [lapp,sizeLine_eq]; omega),?_⟩
  refine ⟨_,rfl,ps,_,_,_,rfl,rfl,SqL.of h5,atI_nat (j:=0) rfl,r1,_,_,_,rfl,rfl,SqT.of h15,atI_nat (j:=0) rfl,_,_,rfl,rfl,(by rw [lapp,lapp,sizeLine_eq]; omega),_,_,rfl,rfl,(by rw [lapp,lapp,lapp,sizeLine_eq]; omega),_,rfl,_,_,rfl,rfl,(by simp only [lapp]; rw [sizeLine_eq]; omega),_,_,rfl,rfl,(by simp only [lapp]; rw [sizeLine_eq]; omega),?_⟩
  have hTl:(Str.ofString "(app " ++ T8++Str.ofString " (app " ++ T1++Str.ofString " " ++ I++Str.ofString "))").length≤15000:=by simp only [lapp]; omega
  have hTc:(Str.ofString "(app " ++ T8++Str.ofString " (app " ++ T1++Str.ofString " " ++ I++Str.ofString "))").cps.toList=ne5T (k-1):=by
    simp only [capp,c8,c1,cI]
    rfl
  generalize Str.ofString "(app " ++ T8++Str.ofString " (app " ++ T1++Str.ofString " " ++ I++Str.ofString "))" = T at hTl hTc ⊢
  have hL:Ln ["a"] false (ne5D (k-1)) T.cps.toList:=by rw [hTc]; exact ne5_ln _
  obtain ⟨k1,k2,k3⟩:=ne5_dk (k-1) (by omega)
  refine ⟨_,rfl,_,_,rfl,rfl,_,_,rfl,rfl,_,rfl,ite2 (fun c=>?_) (fun c=>?_)⟩
  · have c:(600:Int)<574+(k:Nat):=of_decide_eq_true c
    refine ⟨_,rfl,(by show 2≤sizeLine; decide),fun p3 hp3=>q p3 _ ⟨T,_,ne5D (k-1),upd_same,s05.trans (same_new hp3 _),hTl,hL.tg,.inl hL,by omega,fun _=>rfl,fun h=>?_⟩⟩
    rw [grt_many (by omega)] at h
    cases h
  have c:¬ (600:Int)<574+(k:Nat):=of_decide_eq_false (Bool.eq_false_iff.mpr c)
  have hg:grtD (ne5D (k-1))=false:=grt_of k1 k2 k3 (by omega) (by omega) rfl
  refine ⟨_,rfl,_,rfl,rt,_,_,_,rfl,rfl,SqT.of h85,atI_nat (j:=1) rfl,?_⟩
  refine ⟨_,rfl,ps,_,_,_,rfl,rfl,SqL.of h5,atI_nat (j:=0) rfl,r1,_,_,_,rfl,rfl,SqT.of h15,atI_nat (j:=1) rfl,?_⟩
  refine ⟨_,rfl,ps,_,_,_,rfl,rfl,SqL.of h5,atI_nat (j:=1) rfl,r2,_,_,_,rfl,rfl,SqT.of h25,atI_nat (j:=1) rfl,?_⟩
  refine ⟨_,rfl,ps,_,_,_,rfl,rfl,SqL.of h5,atI_nat (j:=2) rfl,r3,_,_,_,rfl,rfl,SqT.of h35,atI_nat (j:=1) rfl,?_⟩
  refine ⟨(by show 3≤sizeLine; decide),fun p6 hp6=>?_⟩
  have t6:=same_new hp6 (.tup [V.str "app",v2,v3])
  have y6:Rep (upd H5 p6 (.tup [V.str "app",v2,v3])) (.tup [.str "app",nxD v0D 29,nxD v0D (k-1)]) (.ref p6):=rep_tup upd_same (by decide +kernel) (reps2 (y2.mono t6) (y3.mono t6))
  generalize upd H5 p6 (.tup [V.str "app",v2,v3])=H6 at t6 y6 ⊢
  refine ⟨(by show 3≤sizeLine; decide),fun p7 hp7=>?_⟩
  have t7:=same_new hp7 (.tup [V.str "app",v1,.ref p6])
  have y7:Rep (upd H6 p7 (.tup [V.str "app",v1,.ref p6])) (.tup [.str "app",nxD v0D 29,.tup [.str "app",nxD v0D 29,nxD v0D (k-1)]]) (.ref p7):=rep_tup upd_same (by decide +kernel) (reps2 (y1.mono (t6.trans t7)) (y6.mono t7))
  generalize upd H6 p7 (.tup [V.str "app",v1,.ref p6])=H7 at t7 y7 ⊢
  refine ⟨(by show 3≤sizeLine; decide),fun p8 hp8=>?_⟩
  have t8:=same_new hp8 (.tup [V.str "app",v8,.ref p7])
  have y9:Rep (upd H7 p8 (.tup [V.str "app",v8,.ref p7])) (ne5D (k-1)) (.ref p8):=rep_tup upd_same (by decide +kernel) (reps2 (y8.mono (t6.trans (t7.trans t8))) (y7.mono t8))
  generalize upd H7 p8 (.tup [V.str "app",v8,.ref p7])=H8 at t8 y9 ⊢
  refine ⟨(by show 2≤sizeLine; decide),fun p9 hp9=>q p9 _ ⟨T,_,ne5D (k-1),upd_same,s05.trans (t6.trans (t7.trans (t8.trans (same_new hp9 _)))),hTl,hL.tg,.inl hL,by omega,fun h=>?_,fun _=>y9.mono (same_new hp9 _)⟩⟩
  rw [hg] at h
  cases h
end K55
end
section
set_option maxHeartbeats 4000000
namespace K55
open PySem L2 L3 KM PyProof.Rows
seal L2.PE L2.PS L2.PSs L2.PT L2.PW L2.PA L2.PG L2.PGs L2.PI L2.PC L2.PO L2.PPs L2.PK L3.PIf L3.PEp L3.PSp L3.PSsp L3.PSg L3.PH L3.PB
variable {P:Program} {w:World} {K:PySem.W.Frag} {mg:Str→Option Value} {base:Heap} {t:Adr}
def kdT (s m:Nat):List Nat:=if s=0 then chT 0 m else trT 0 m
def kdD (s m:Nat):D:=if s=0 then chD 0 m else trD 0 m
theorem ch0_len:∀ m:Nat,(chT 0 m).length=12*m+3
  | 0=>by decide +kernel
  | m+1=>by
    rw [ch_step,List.length_append,List.length_append,ch0_len m,show (chPre 0).cps.toList.length=11 by decide +kernel,show (chPos 0).cps.toList.length=1 by decide +kernel]
    omega
theorem tr0_len:∀ m:Nat,(trT 0 m).length+10=2 ^ m*13
  | 0=>by decide +kernel
  | m + 1 => by
    have ih:=tr0_len m
    have e:(trT 0 (m+1)).length=10+2*(trT 0 m).length:=by
      show (cl "(some b " ++ trT 0 m++cl " " ++ trT 0 m++cl ")").length=_
      rw [List.length_append,List.length_append,List.length_append,List.length_append,show (cl "(some b ").length=8 by decide +kernel,show (cl " ").length=1 by decide +kernel,show (cl ")").length=1 by decide +kernel]
      omega
    rw [e,Nat.pow_succ]
    omega
theorem kd_len {s m:Nat} (h:s=0∧m≤41∨s≠0∧m≤8):(kdT s m).length≤3328:=by
  unfold kdT
  rcases h with ⟨h1,h2⟩ | ⟨h1,h2⟩
  · rw [if_pos h1,ch0_len]; omega
  · rw [if_neg h1]
    have:=tr0_len m
    have h3:2 ^ m≤2 ^ 8:=Nat.pow_le_pow_right (by decide) h2
    omega
theorem kd_tg (s m:Nat) (scope:List Str):Tg scope true (kdD s m) (kdT s m):=by
  unfold kdD kdT
  split
  · exact (ch_ln 0 m scope).1
  · exact (tr_ln 0 m scope).1
def spKnd:Sp:=fun vs H Q _=>∃ (m s:Nat),vs=[.int (m:Nat),.int (s:Nat)]∧(s=0∧m≤41∨s≠0∧m≤8)∧∀ (r:Addr) (H':Hp) (T:Str) (v:V),H' r=some (.tup [.str T,v])→Same H H'→T.cps.toList=kdT s m→Rep H' (kdD s m) v→Q (.ref r) H'
theorem sc_law_kind:FnScope ["_law_many", "_law_some", "_law_line", "_law_thing", "_law_k"] ["_law_many", "_law_some"] (defScope s_law_kind):=⟨rfl,rfl,rfl,by decide +kernel,rfl,by decide +kernel,by decide +kernel⟩
theorem c_law_kind (D:Df K mg "_law_kind" s_law_kind ["_law_many", "_law_some"]) (M:Mg mg t):Cal P w K mg CX0 "_law_kind" (1) ["_law_many", "_law_some"] spKnd:=by
  refine D.ok sc_law_kind (fun vs H Q E h=>?_) (fun base f cdv A outer s H vs Q E hr h=>?_)
  · obtain ⟨m,s,rfl,_⟩:=h
    rfl
  obtain ⟨m,s,rfl,hms,q⟩:=h
  refine ⟨_,(pss_cons (ps_set (i:=2) sc_law_kind.nd rfl (by first | exact Or.inl rfl | exact Or.inr rfl) pe_str)
      (pss_cons (ps_set (i:=3) sc_law_kind.nd rfl (by first | exact Or.inl rfl | exact Or.inr rfl) (pe_tup (pa_cons pe_str pa_nil)))
      (pss_cons (ps_for PassesOwn.never rfl (pi_range1 rfl M.n_range (pa_cons (pv 0) pa_nil)) (pg_name (i:=4) sc_law_kind.nd rfl (by first | exact Or.inl rfl | exact Or.inr rfl)) (pss_one (ps_if (pt_cmpR op_eq (pv 1) pe_int (nomark _)) (pss_cons (ps_set (i:=2) sc_law_kind.nd rfl (by first | exact Or.inl rfl | exact Or.inr rfl) (pe_op op_add_str (pe_op op_add_str pe_str (pv 2)) pe_str))
      (pss_one (ps_set (i:=3) sc_law_kind.nd rfl (by first | exact Or.inl rfl | exact Or.inr rfl) (pe_tup (pa_cons pe_str (pa_cons (pe_tup (pa_cons pe_str pa_nil)) (pa_cons (pv 3) pa_nil))))))) (pss_cons (ps_set (i:=2) sc_law_kind.nd rfl (by first | exact Or.inl rfl | exact Or.inr rfl) (pe_op op_add_str (pe_op op_add_str (pe_op op_add_str (pe_op op_add_str pe_str (pv 2)) pe_str) (pv 2)) pe_str))
      (pss_one (ps_set (i:=3) sc_law_kind.nd rfl (by first | exact Or.inl rfl | exact Or.inr rfl) (pe_tup (pa_cons pe_str (pa_cons (pv 3) (pa_cons (pv 3) pa_nil))))))))))
      (pss_one (ps_ret (pe_tup (pa_cons (pv 2) (pa_cons (pv 3) pa_nil)))))))),?_⟩
  try dsimp only [cxK,cxK2]
  refine let4 ?_
  intro _ _ _ _
  refine ⟨(by show 1≤sizeLine; decide),fun p1 hp1=>?_⟩
  have t1:=same_new hp1 (.tup [V.str "nat"])
  have r1:Rep (upd H p1 (.tup [V.str "nat"])) (kdD s 0) (.ref p1):=by
    have e:kdD s 0=natD:=by unfold kdD; split <;> rfl
    rw [e]
    exact rep_tup upd_same (by decide +kernel) rfl
  generalize upd H p1 (.tup [V.str "nat"])=H1 at t1 r1 ⊢
  refine ⟨_,rfl,((m:Nat):Int),rfl,(by show -(2 ^ 62)≤((m:Nat):Int); omega),(by show ((m:Nat):Int)<2 ^ 62; omega),?_⟩
  rw [show ((m:Nat):Int).toNat=m by omega]
  have n1:(Str.ofString "(all b nat ").length=11:=by decide +kernel
  have n2:(Str.ofString "(some b ").length=8:=by decide +kernel
  have n3:(Str.ofString " ").length=1:=by decide +kernel
  have n4:(Str.ofString ")").length=1:=by decide +kernel
  have e0:(Str.ofString "nat").cps.toList=kdT s 0:=by unfold kdT; split <;> rfl
  refine for_by m (fun j σ' H'=>∃ (L:Str) (v:V) (kv:Option V),σ'=[some (.int (m:Nat)),some (.int (s:Nat)),some (.str L),some v,kv]∧Same H H'∧L.cps.toList=kdT s j∧Rep H' (kdD s j) v) ⟨_,_,_,rfl,t1,e0,r1⟩ ?_ ?_
  · rintro j σ' H4 hj ⟨L,v,kv,rfl,s4,hL,r4⟩
    refine ⟨hj,?_⟩
    rintro x' H5 ⟨rfl,rfl⟩
    have hl:=kd_len (s:=s) (m:=j) (by omega)
    rw [← hL,← str_len] at hl
    refine ⟨_,rfl,rfl,_,rfl,ite2 (fun c0=>?_) (fun c0=>?_)⟩
    · have c0:s=0:=by have:=of_decide_eq_true c0; injection this with this; omega
      refine ⟨_,rfl,_,_,rfl,rfl,(by rw [sizeLine_eq]; omega),_,_,rfl,rfl,(by rw [lapp,sizeLine_eq]; omega),?_⟩
      refine ⟨(by show 1≤sizeLine; decide),fun p5 hp5=>?_⟩
      have t5:=same_new hp5 (.tup [V.str "nat"])
      have r5:Rep (upd H5 p5 (.tup [V.str "nat"])) natD (.ref p5):=rep_tup upd_same (by decide +kernel) rfl
      refine ⟨_,rfl,(by show 3≤sizeLine; decide),fun p6 hp6=>?_⟩
      have t6:=same_new hp6 (.tup [V.str "all",.ref p5,v])
      refine ⟨_,_,_,rfl,s4.trans (t5.trans t6),?_,?_⟩
      · rw [capp,capp,hL]
        unfold kdT
        rw [if_pos c0,if_pos c0,ch_step,List.append_assoc]
        rfl
      · unfold kdD at r4 ⊢
        rw [if_pos c0] at r4 ⊢
        exact rep_tup upd_same (by decide +kernel) (reps2 (r5.mono t6) (r4.mono (t5.trans t6)))
    · have n0:s≠0:=fun e=>c0 (decide_eq_true (by rw [e]; rfl))
      refine ⟨_,rfl,_,_,rfl,rfl,(by rw [sizeLine_eq]; omega),_,_,rfl,rfl,(by rw [lapp,sizeLine_eq]; omega),_,rfl,_,_,rfl,rfl,(by rw [lapp,lapp,sizeLine_eq]; omega),_,_,rfl,rfl,(by rw [lapp,lapp,lapp,sizeLine_eq]; omega),?_⟩
      refine ⟨_,rfl,_,rfl,(by show 3≤sizeLine; decide),fun p6 hp6=>?_⟩
      have t6:=same_new hp6 (.tup [V.str "some",v,v])
      refine ⟨_,_,_,rfl,s4.trans t6,?_,?_⟩
      · rw [capp,capp,capp,capp,hL]
        unfold kdT
        rw [if_neg n0,if_neg n0]
        rfl
      · unfold kdD at r4 ⊢
        rw [if_neg n0] at r4 ⊢
        exact rep_tup upd_same (by decide +kernel) (reps2 (r4.mono t6) (r4.mono t6))
  · rintro σ' H4 ⟨L,v,kv,rfl,s4,hL,r4⟩
    refine ⟨Nat.le_refl _,?_⟩
    exact ⟨_,rfl,_,rfl,(by show 2≤sizeLine; decide),fun p3 hp3=>q p3 _ L v upd_same (s4.trans (same_new hp3 _)) hL (r4.mono (same_new hp3 _))⟩
theorem kd_dk {s m:Nat}:1≤depth (kdD s m)∧depth (kdD s m)≤m+2∧(s=0→depth (kdD s m)=m+1)∧bigD (kdD s m)=false∧knots (kdD s m)=(if s=0 then 2*m+1 else trN 0 m):=by
  unfold kdD
  split
  · obtain ⟨a,b,c⟩:=ch_dk 0 m
    exact ⟨by omega,by omega,fun _=>a,c,b⟩
  · obtain ⟨a,b,c⟩:=tr_dk 0 m
    refine ⟨?_,a,fun h=>by omega,c,b⟩
    cases m with
    | zero=>decide +kernel
    | succ m=>simp only [trD,depth,depthL]; omega
def spOver:Sp:=fun vs H Q _=>∃ (c:Int) (f s:Nat),vs=[.int c,.int (f:Nat),.int (s:Nat)]∧f<6∧s<3∧∀ (r:Addr) (H':Hp),Pr ["a"] r H H'→Q (.ref r) H'
def ovE (s:Nat) (f m:Nat):D:=if s=2 then .tup [.str "app",ovD f (kdD s m),ovD f (kdD s m)] else ovD f (kdD s m)
def ovL (s:Nat) (f m:Nat):List Nat:=if s=2 then cl "(app " ++ ovT f (kdT s m)++cl " " ++ ovT f (kdT s m)++cl ")" else ovT f (kdT s m)
theorem ove_ln {s f m:Nat} (hf:f<6):Ln ["a"] false (ovE s f m) (ovL s f m):=by
  have h:=ok_ln (kd_tg s m) f hf
  unfold ovE ovL
  split
  · exact ln_app h.tg h.tg
  · exact h
theorem ove_dk {s f m:Nat}:depth (ovE s f m)≤m+4∧(s=0→depth (ovE s f m)=m+2)∧bigD (ovE s f m)=false∧knots (ovE s f m)=(if s=2 then 2*(1+knots (kdD s m)+ovN f)+1 else 1+knots (kdD s m)+ovN f):=by
  obtain ⟨a1,a2,a3,a4,_⟩:=kd_dk (s:=s) (m:=m)
  obtain ⟨b1,b2,b3⟩:=ok_dk f a1
  unfold ovE
  split
  · rename_i h
    refine ⟨?_,fun h0=>by omega,?_,?_⟩
    · simp only [depth,depthL]; omega
    · simp [bigD,bigL,b3,a4]
    · simp only [knots,knotsL]; omega
  · exact ⟨by omega,fun h0=>by have:=a3 h0; omega,b3.trans a4,b2⟩
theorem reps_rep {H:Hp} {d:D} {v:V} (h:Rep H d v):∀ n:Nat,Reps H (List.replicate n d) (List.replicate n v)
  | 0=>rfl
  | n+1=>⟨v,List.replicate n v,rfl,h,reps_rep h n⟩
theorem flat_one (v:V):∀ n:Nat,(List.replicate n [v]).flatten=List.replicate n v
  | 0=>rfl
  | n+1=>by rw [List.replicate_succ,List.flatten_cons,flat_one v n]; rfl
theorem sc_law_over_kind:FnScope ["_law_cell", "_law_form", "_law_some", "_law_many", "_law_knots", "_law_kind_here", "_law_line", "_law_var", "_law_thing"] ["_law_cell", "_law_form", "_law_some"] (defScope s_law_over_kind):=⟨rfl,rfl,rfl,by decide +kernel,rfl,by decide +kernel,by decide +kernel⟩
theorem c_law_over (D:Df K mg "_law_over_kind" s_law_over_kind ["_law_cell", "_law_form", "_law_some"]) (M:Mg mg t) (F_law_kind:Cal P w K mg CX0 "_law_kind" (1) ["_law_many", "_law_some"] spKnd):Cal P w K mg CX0 "_law_over_kind" (2) ["_law_cell", "_law_form", "_law_some"] spOver:=by
  refine D.ok sc_law_over_kind (fun vs H Q E h=>?_) (fun base f cdv A outer s H vs Q E hr h=>?_)
  · obtain ⟨c,f,s,rfl,_⟩:=h
    rfl
  obtain ⟨c,f,s,rfl,hf,hs,q⟩:=h
  refine ⟨_,(pss_cons (ps_set (i:=3) sc_law_over_kind.nd rfl (by first | exact Or.inl rfl | exact Or.inr rfl) (pe_op op_add pe_int (pe_op op_mod (pv 0) pe_int)))
      (pss_cons (ps_set (i:=4) sc_law_over_kind.nd rfl (by first | exact Or.inl rfl | exact Or.inr rfl) (pe_op op_add (pe_op op_mul pe_int (pv 3)) pe_int))
      (pss_cut (ps_if (pt_cmpR op_gt (pv 2) pe_int (nomark _)) (pss_cons (ps_set (i:=3) sc_law_over_kind.nd rfl (by first | exact Or.inl rfl | exact Or.inr rfl) (pe_op op_add pe_int (pe_op op_mod (pv 0) pe_int)))
      (pss_one (ps_set (i:=4) sc_law_over_kind.nd rfl (by first | exact Or.inl rfl | exact Or.inr rfl) (pe_op op_sub (pe_op op_mul (pe_op op_mul pe_int (pe_op op_pow pe_int pe_int)) (pe_op op_add pe_int (pe_op op_mod (pv 0) pe_int))) pe_int)))) pss_nil)
      (pss_cons (ps_set (i:=5) sc_law_over_kind.nd rfl (by first | exact Or.inl rfl | exact Or.inr rfl) (pe_fn F_law_kind (hr.mono (by omega)) rfl pass0 (pa_cons (pv 3) (pa_cons (pv 2) pa_nil))))
      (pss_cons (ps_set (i:=6) sc_law_over_kind.nd rfl (by first | exact Or.inl rfl | exact Or.inr rfl) (pe_op op_add_str (pe_ix ix_list (pe_lst (pa_cons pe_str (pa_cons pe_str (pa_cons pe_str (pa_cons pe_str (pa_cons pe_str (pa_cons pe_str pa_nil))))))) (pv 1) (fun _ _=>rfl)) (pe_ix ix_tup (pv 5) pe_int (fun _ _=>rfl))))
      (pss_cons (ps_set (i:=6) sc_law_over_kind.nd rfl (by first | exact Or.inl rfl | exact Or.inr rfl) (pe_op op_add_str (pe_op op_add_str (pv 6) (pe_op op_repS pe_str (pe_ix ix_list (pe_lst (pa_cons pe_int (pa_cons pe_int (pa_cons pe_int (pa_cons pe_int (pa_cons pe_int (pa_cons pe_int pa_nil))))))) (pv 1) (fun _ _=>rfl)))) pe_str))
      (pss_cons (ps_set (i:=7) sc_law_over_kind.nd rfl (by first | exact Or.inl rfl | exact Or.inr rfl) (pe_tup (pa_cons pe_str (pa_cons (pe_callTy call_int1 rfl M.n_int bt_int (pa_cons (pe_cmpR op_eq (pv 1) pe_int (nomark _)) pa_nil)) pa_nil))))
      (pss_cons (ps_set (i:=8) sc_law_over_kind.nd rfl (by first | exact Or.inl rfl | exact Or.inr rfl) (pe_op op_catU (pe_tup (pa_cons (pe_ix ix_list (pe_lst (pa_cons pe_str (pa_cons pe_str (pa_cons pe_str (pa_cons pe_str (pa_cons pe_str (pa_cons pe_str pa_nil))))))) (pv 1) (fun _ _=>rfl)) (pa_cons (pe_ix ix_tup (pv 5) pe_int (fun _ _=>rfl)) pa_nil))) (pe_op op_repT (pe_tup (pa_cons (pv 7) pa_nil)) (pe_ix ix_list (pe_lst (pa_cons pe_int (pa_cons pe_int (pa_cons pe_int (pa_cons pe_int (pa_cons pe_int (pa_cons pe_int pa_nil))))))) (pv 1) (fun _ _=>rfl)))))
      (pss_cons (ps_set (i:=4) sc_law_over_kind.nd rfl (by first | exact Or.inl rfl | exact Or.inr rfl) (pe_op op_add (pe_op op_add (pv 4) pe_int) (pe_ix ix_list (pe_lst (pa_cons pe_int (pa_cons pe_int (pa_cons pe_int (pa_cons pe_int (pa_cons pe_int (pa_cons pe_int pa_nil))))))) (pv 1) (fun _ _=>rfl))))
      (pss_cut (ps_if (pt_cmpR op_eq (pv 2) pe_int (nomark _)) (pss_cons (ps_set (i:=6) sc_law_over_kind.nd rfl (by first | exact Or.inl rfl | exact Or.inr rfl) (pe_op op_add_str (pe_op op_add_str (pe_op op_add_str (pe_op op_add_str pe_str (pv 6)) pe_str) (pv 6)) pe_str))
      (pss_cons (ps_set (i:=8) sc_law_over_kind.nd rfl (by first | exact Or.inl rfl | exact Or.inr rfl) (pe_tup (pa_cons pe_str (pa_cons (pv 8) (pa_cons (pv 8) pa_nil)))))
      (pss_one (ps_set (i:=4) sc_law_over_kind.nd rfl (by first | exact Or.inl rfl | exact Or.inr rfl) (pe_op op_add (pe_op op_mul pe_int (pv 4)) pe_int))))) pss_nil)
      (pss_cons (ps_if (L2.PW.pt (pw_or (pt_cmpR op_gt (pe_op op_add (pv 3) pe_int) pe_int (nomark _)) (pw_or1 (pt_cmpR op_gt (pv 4) pe_int (nomark _))))) (pss_one (ps_ret (pe_tup (pa_cons (pv 6) (pa_cons pe_str pa_nil))))) pss_nil)
      (pss_one (ps_ret (pe_tup (pa_cons (pv 6) (pa_cons (pv 8) pa_nil)))))))))))))))),?_⟩
  try dsimp only [cxK,cxK2]
  refine let3 ?_
  intro _ _ _
  obtain ⟨q6,hq6,lq6⟩:∃ k:Nat,c % 6=(k:Int)∧k<6:=cell_mod c 6 (by decide)
  obtain ⟨q2,hq2,lq2⟩:∃ k:Nat,c % 2=(k:Int)∧k<2:=cell_mod c 2 (by decide)
  refine ⟨_,rfl,_,_,rfl,rfl,(by show (0:Int)<6; decide),_,_,rfl,rfl,_,rfl,_,_,rfl,rfl,.inl ⟨by decide,by decide⟩,_,_,rfl,rfl,?_⟩
  refine ⟨fun σ' H'=>H'=H∧∃ (m k:Nat),σ'=[some (.int c),some (.int (f:Nat)),some (.int (s:Nat)),some (.int (m:Nat)),some (.int (k:Nat)),none,none,none,none]∧(s=0∧36≤m∧m≤41∨s≠0∧7≤m∧m≤8)∧k=knots (kdD s m),?_,?_⟩
  · refine ⟨_,rfl,_,_,rfl,rfl,_,rfl,ite2 (fun c1=>?_) (fun c1=>?_)⟩
    · have c1:(0:Int)<(s:Nat):=of_decide_eq_true c1
      have e1:(7:Int)+c % 2=((7+q2:Nat):Int):=by rw [hq2]; omega
      have e2:(2:Int)*2 ^ (7:Int).toNat*(1+c % 2)-1=((trN 0 (7+q2):Nat):Int):=by
        rw [hq2]
        match q2,lq2 with
        | 0,_=>rfl
        | 1,_=>rfl
      refine ⟨_,rfl,_,_,rfl,rfl,(by show (0:Int)<2; decide),_,_,rfl,rfl,_,_,rfl,rfl,⟨by decide,by decide,by decide⟩,_,_,rfl,rfl,.inl ⟨by decide,by decide⟩,_,rfl,_,_,rfl,rfl,(by show (0:Int)<2; decide),_,_,rfl,rfl,_,_,rfl,rfl,.inl ⟨by decide,by decide⟩,_,_,rfl,rfl,rfl,7+q2,trN 0 (7+q2),?_,.inr ⟨by omega,by omega,by omega⟩,?_⟩
      · rw [← e1,← e2]
        rfl
      · rw [kd_dk.2.2.2.2,if_neg (by omega)]
    · have c1:¬ (0:Int)<(s:Nat):=of_decide_eq_false (Bool.eq_false_iff.mpr c1)
      have s0:s=0:=by omega
      refine ⟨rfl,36+q6,2*(36+q6)+1,?_,.inl ⟨s0,by omega,by omega⟩,by rw [kd_dk.2.2.2.2,if_pos s0]⟩
      have e1:(36:Int)+c % 6=((36+q6:Nat):Int):=by rw [hq6]; omega
      show [some (V.int c),some (V.int (f:Nat)),some (V.int (s:Nat)),some (V.int (36+c % 6)),some (V.int (2*(36+c % 6)+1)),none,none,none,none]=_
      rw [e1,show (2:Int)*((36+q6:Nat):Int)+1=((2*(36+q6)+1:Nat):Int) by omega]
  rintro σ' H' ⟨eH,m,k,rfl,hms,hk⟩
  have eH:=eH.symm
  subst eH
  refine ⟨_,rfl,_,rfl,m,s,rfl,by omega,fun rk H1 T1 v1 h1 s1 cT1 y1=>?_⟩
  have n1:ovN f≤3∧1≤ovN f:=by rcases okn_ok f with e | e | e <;> omega
  have x1:([V.str "(like ",.str "(never ",.str "(fun b ",.str "(pair ",.str "(rec c ",.str "(carry c "]:List V)[f]?=some (.str (ovP f)):=by match f,hf with | 0,_=>rfl | 1,_=>rfl | 2,_=>rfl | 3,_=>rfl | 4,_=>rfl | 5,_=>rfl
  have x2:([V.int 1,.int 1,.int 1,.int 2,.int 3,.int 2]:List V)[f]?=some (.int (ovN f:Nat)):=by match f,hf with | 0,_=>rfl | 1,_=>rfl | 2,_=>rfl | 3,_=>rfl | 4,_=>rfl | 5,_=>rfl
  have x3:([V.str "like",.str "never",.str "fun",.str "pair",.str "rec",.str "carry"]:List V)[f]?=some (.str (ovW f)):=by match f,hf with | 0,_=>rfl | 1,_=>rfl | 2,_=>rfl | 3,_=>rfl | 4,_=>rfl | 5,_=>rfl
  have l1:(ovP f).length≤9∧(ovW f).length≤1000:=by match f,hf with | 0,_=>exact ⟨by decide +kernel,by decide +kernel⟩ | 1,_=>exact ⟨by decide +kernel,by decide +kernel⟩ | 2,_=>exact ⟨by decide +kernel,by decide +kernel⟩ | 3,_=>exact ⟨by decide +kernel,by decide +kernel⟩ | 4,_=>exact ⟨by decide +kernel,by decide +kernel⟩ | 5,_=>exact ⟨by decide +kernel,by decide +kernel⟩
  have l2:=kd_len (s:=s) (m:=m) (by omega)
  rw [← cT1,← str_len] at l2
  have m2:=mul_len " a" (ovN f)
  have n2:(Str.ofString " a").length=2:=by decide +kernel
  have n3:(Str.ofString ")").length=1:=by decide +kernel
  rw [n2] at m2
  refine ⟨(by show 6≤sizeLine; decide),fun p1 hp1=>⟨_,rfl,p1,_,_,_,rfl,rfl,SqL.of upd_same,atI_nat x1,?_⟩⟩
  have t1:=same_new hp1 (.lst [V.str "(like ",.str "(never ",.str "(fun b ",.str "(pair ",.str "(rec c ",.str "(carry c "])
  generalize upd H1 p1 (.lst [V.str "(like ",.str "(never ",.str "(fun b ",.str "(pair ",.str "(rec c ",.str "(carry c "])=H2 at t1 ⊢
  refine ⟨_,rfl,rk,_,_,_,rfl,rfl,SqT.of (t1 _ _ h1),atI_nat (j:=0) rfl,_,_,rfl,rfl,(by rw [sizeLine_eq]; omega),?_⟩
  refine ⟨_,rfl,(by show 6≤sizeLine; decide),fun p2 hp2=>⟨_,rfl,p2,_,_,_,rfl,rfl,SqL.of upd_same,atI_nat x2,?_⟩⟩
  have t2:=same_new hp2 (.lst [V.int 1,.int 1,.int 1,.int 2,.int 3,.int 2])
  generalize upd H2 p2 (.lst [V.int 1,.int 1,.int 1,.int 2,.int 3,.int 2])=H3 at t2 ⊢
  refine ⟨_,_,rfl,rfl,mul_ok (by omega) (by omega),_,_,rfl,rfl,(by rw [lapp,sizeLine_eq]; omega),_,_,rfl,rfl,(by rw [lapp,lapp,sizeLine_eq]; omega),?_⟩
  have hTl:(ovP f++T1++Txt.mul " a" (ovN f:Nat)++Str.ofString ")").length≤4000:=by rw [lapp,lapp,lapp]; omega
  have hTc:(ovP f++T1++Txt.mul " a" (ovN f:Nat)++Str.ofString ")").cps.toList=ovT f (kdT s m):=by
    rw [capp,capp,capp,mul_cps,cT1]
    rfl
  generalize ovP f++T1++Txt.mul " a" (ovN f:Nat)++Str.ofString ")" = T at hTl hTc ⊢
  refine ⟨_,rfl,rfl,.inr ⟨_,rfl,(by show 2≤sizeLine; decide),fun p3 hp3=>?_⟩⟩
  have ev:(if decide (V.int ((f:Nat):Int)=V.int 2)=true then (1:Int) else 0)=if f=2 then 1 else 0:=by
    by_cases h:f=2
    · rw [if_pos h,h]; rfl
    · rw [if_neg h,if_neg]
      intro hd
      have:=of_decide_eq_true hd
      injection this with this
      omega
  have t3:=same_new hp3 (.tup [V.str "var",.int (if decide (V.int ((f:Nat):Int)=V.int 2)=true then (1:Int) else 0)])
  have r3:Rep (upd H3 p3 (.tup [V.str "var",.int (if decide (V.int ((f:Nat):Int)=V.int 2)=true then (1:Int) else 0)])) (ovVr f) (.ref p3):=by
    refine rep_tup upd_same (by decide +kernel) (reps1 ?_)
    rw [ev]
    rfl
  generalize upd H3 p3 (.tup [V.str "var",.int (if decide (V.int ((f:Nat):Int)=V.int 2)=true then (1:Int) else 0)])=H4 at t3 r3 ⊢
  have s14:=t1.trans (t2.trans t3)
  refine ⟨(by show 6≤sizeLine; decide),fun p4 hp4=>⟨_,rfl,p4,_,_,_,rfl,rfl,SqL.of upd_same,atI_nat x3,?_⟩⟩
  have t4:=same_new hp4 (.lst [V.str "like",.str "never",.str "fun",.str "pair",.str "rec",.str "carry"])
  generalize upd H4 p4 (.lst [V.str "like",.str "never",.str "fun",.str "pair",.str "rec",.str "carry"])=H5 at t4 ⊢
  refine ⟨_,rfl,rk,_,_,_,rfl,rfl,SqT.of (t4 _ _ (s14 _ _ h1)),atI_nat (j:=1) rfl,(by show 2≤sizeLine; decide),fun p5 hp5=>?_⟩
  have t5:=same_new hp5 (.tup [V.str (ovW f),v1])
  have h5:(upd H5 p5 (.tup [V.str (ovW f),v1])) p5=some (.tup [V.str (ovW f),v1]):=upd_same
  generalize upd H5 p5 (.tup [V.str (ovW f),v1])=H6 at t5 h5 ⊢
  refine ⟨_,rfl,(by show 1≤sizeLine; decide),fun p6 hp6=>?_⟩
  have t6:=same_new hp6 (.tup [V.ref p3])
  have h6:(upd H6 p6 (.tup [V.ref p3])) p6=some (.tup [V.ref p3]):=upd_same
  generalize upd H6 p6 (.tup [V.ref p3])=H7 at t6 h6 ⊢
  refine ⟨(by show 6≤sizeLine; decide),fun p7 hp7=>⟨_,rfl,p7,_,_,_,rfl,rfl,SqL.of upd_same,atI_nat x2,?_⟩⟩
  have t7:=same_new hp7 (.lst [V.int 1,.int 1,.int 1,.int 2,.int 3,.int 2])
  generalize upd H7 p7 (.lst [V.int 1,.int 1,.int 1,.int 2,.int 3,.int 2])=H8 at t7 ⊢
  refine ⟨p6,ovN f,[V.ref p3],rfl,rfl,t7 _ _ h6,by simp,by omega,by omega,(by show 1≤1000; decide),fun p8 H9 s9 h9=>?_⟩
  rw [flat_one] at h9
  have h59:=s9 _ _ (t7 _ _ (t6 _ _ h5))
  refine ⟨p5,p8,[V.str (ovW f),v1],List.replicate (ovN f) (V.ref p3),rfl,rfl,h59,h9,(by rw [List.length_replicate,sizeLine_eq]; show 2+ovN f≤_; omega),fun p9 H10 s10 h10=>?_⟩
  have s410:=t4.trans (t5.trans (t6.trans (t7.trans (s9.trans s10))))
  have s110:=s14.trans s410
  have y10:Rep H10 (ovD f (kdD s m)) (.ref p9):=by
    refine ⟨p9,_,rfl,h10,_,_,rfl,⟨rfl,l1.2⟩,v1,_,rfl,y1.mono s110,?_⟩
    exact reps_rep (r3.mono s410) (ovN f)
  have S10:=s1.trans s110
  clear t1 t2 t3 t4 t5 t6 t7 s9 s10 s14 s410 r3 h5 h6 h59 h9 h10
  refine ⟨_,rfl,_,_,rfl,rfl,(by show 6≤sizeLine; decide),fun p10 hp10=>⟨_,rfl,p10,_,_,_,rfl,rfl,SqL.of upd_same,atI_nat x2,_,_,rfl,rfl,?_⟩⟩
  have t11:=same_new hp10 (.lst [V.int 1,.int 1,.int 1,.int 2,.int 3,.int 2])
  have y11:=y10.mono t11
  have S11:=S10.trans t11
  generalize upd H10 p10 (.lst [V.int 1,.int 1,.int 1,.int 2,.int 3,.int 2])=H11 at y11 S11 ⊢
  clear y10 t11 S10 s110 y1
  obtain ⟨e1,e2,e3,e4⟩:=ove_dk (s:=s) (f:=f) (m:=m)
  refine ⟨fun σ' H'=>∃ (T:Str) (v u:V),σ'=[some (.int c),some (.int (f:Nat)),some (.int (s:Nat)),some (.int (m:Nat)),some (.int (knots (ovE s f m):Nat)),some (.ref rk),some (.str T),some u,some v]∧Same H' H'∧Same H H'∧T.length≤15000∧T.cps.toList=ovL s f m∧Rep H' (ovE s f m) v,?_,?_⟩
  · refine ⟨_,rfl,rfl,_,rfl,ite2 (fun c1=>?_) (fun c1=>?_)⟩
    · have c1:s=2:=by have:=of_decide_eq_true c1; injection this with this; omega
      have n4:(Str.ofString "(app ").length=5:=by decide +kernel
      have n5:(Str.ofString " ").length=1:=by decide +kernel
      refine ⟨_,rfl,_,_,rfl,rfl,(by rw [sizeLine_eq]; omega),_,_,rfl,rfl,(by rw [lapp,sizeLine_eq]; omega),_,rfl,_,_,rfl,rfl,(by rw [lapp,lapp,sizeLine_eq]; omega),_,_,rfl,rfl,(by rw [lapp,lapp,lapp,sizeLine_eq]; omega),?_⟩
      refine ⟨_,rfl,_,rfl,(by show 3≤sizeLine; decide),fun p12 hp12=>?_⟩
      have t12:=same_new hp12 (.tup [V.str "app",.ref p9,.ref p9])
      refine ⟨_,rfl,_,_,rfl,rfl,.inl ⟨by decide,by decide⟩,_,_,rfl,rfl,Str.ofString "(app " ++ T++Str.ofString " " ++ T++Str.ofString ")",.ref p12,.ref p3,?_,fun _ _ h=>h,S11.trans t12,?_,?_,?_⟩
      · rw [e4,if_pos c1,← hk]
        show [some (V.int c),some (V.int (f:Nat)),some (V.int (s:Nat)),some (V.int (m:Nat)),some (V.int (2*((k:Nat)+1+(ovN f:Nat):Int)+1)),_,_,_,_]=_
        rw [show (2:Int)*((k:Nat)+1+(ovN f:Nat):Int)+1=((2*(1+k+ovN f)+1:Nat):Int) by omega]
      · rw [lapp,lapp,lapp,lapp]; omega
      · unfold ovL
        rw [if_pos c1,capp,capp,capp,capp,hTc]
      · unfold ovE
        rw [if_pos c1]
        exact rep_tup upd_same (by decide +kernel) (reps2 (y11.mono t12) (y11.mono t12))
    · have c1:s≠2:=fun e=>c1 (decide_eq_true (by rw [e]; rfl))
      refine ⟨T,.ref p9,.ref p3,?_,fun _ _ h=>h,S11,by omega,?_,?_⟩
      · rw [e4,if_neg c1,← hk]
        show [some (V.int c),some (V.int (f:Nat)),some (V.int (s:Nat)),some (V.int (m:Nat)),some (V.int ((k:Nat)+1+(ovN f:Nat):Int)),_,_,_,_]=_
        rw [show ((k:Nat)+1+(ovN f:Nat):Int)=((1+k+ovN f:Nat):Int) by omega]
      · unfold ovL
        rw [if_neg c1,hTc]
      · unfold ovE
        rw [if_neg c1]
        exact y11
  clear y11 S11 hTl hTc
  rintro σ' H12 ⟨T,v,u,rfl,_,S12,hTl,hTc,y12⟩
  have hL:Ln ["a"] false (ovE s f m) T.cps.toList:=by rw [hTc]; exact ove_ln hf
  have hkk:knots (ovE s f m)≤8000000:=by
    rw [e4,kd_dk.2.2.2.2]
    have:trN 0 m≤511∨s=0:=by
      rcases hms with h | ⟨_,h1,h2⟩
      · exact .inr h.1
      · refine .inl ?_
        have:m=7∨m=8:=by omega
        rcases this with rfl | rfl <;> decide
    repeat' split
    all_goals omega
  have gr:grtD (ovE s f m)=true→∀ p3,H12 p3=none→Q (.ref p3) (upd H12 p3 (.tup [.str T,.str "great"])):=fun hg p3 hp3 =>
    q p3 _ ⟨T,_,ovE s f m,upd_same,S12.trans (same_new hp3 _),hTl,hL.tg,.inl hL,hkk,fun _=>rfl,fun h=>by rw [hg] at h; cases h⟩
  refine ⟨_,rfl,_,_,rfl,rfl,_,_,rfl,rfl,_,rfl,ite2 (fun c1=>?_) (fun c1=>?_)⟩
  · have c1:(40:Int)<(m:Nat)+2:=of_decide_eq_true c1
    exact iteT ⟨_,rfl,(by show 2≤sizeLine; decide),fun p3 hp3=>gr (grt_deep (by have:=e2 (by omega); omega)) p3 hp3⟩
  have c1:¬ (40:Int)<(m:Nat)+2:=of_decide_eq_false (Bool.eq_false_iff.mpr c1)
  refine ⟨_,rfl,_,_,rfl,rfl,_,rfl,ite2 (fun c2=>?_) (fun c2=>?_)⟩
  · have c2:(600:Int)<(knots (ovE s f m):Nat):=of_decide_eq_true c2
    exact ⟨_,rfl,(by show 2≤sizeLine; decide),fun p3 hp3=>gr (grt_many (by omega)) p3 hp3⟩
  have c2:¬ (600:Int)<(knots (ovE s f m):Nat):=of_decide_eq_false (Bool.eq_false_iff.mpr c2)
  have hg : grtD (ovE s f m) = false := grt_of (a := 40) (by rcases hms with h | h; · have := e2 h.1; omega
                                                             · omega) rfl e3 (by omega) (by omega) rfl
  exact ⟨_,rfl,_,rfl,(by show 2≤sizeLine; decide),fun p3 hp3=>q p3 _ ⟨T,v,ovE s f m,upd_same,S12.trans (same_new hp3 _),hTl,hL.tg,.inl hL,hkk,(fun h=>by rw [hg] at h; cases h),fun _=>y12.mono (same_new hp3 _)⟩⟩
end K55
end
section
set_option maxHeartbeats 4000000
namespace K55
open PySem L2 L3 KM PyProof.Rows
seal L2.PE L2.PS L2.PSs L2.PT L2.PW L2.PA L2.PG L2.PGs L2.PI L2.PC L2.PO L2.PPs L2.PK L3.PIf L3.PEp L3.PSp L3.PSsp L3.PSg L3.PH L3.PB
variable {P:Program} {w:World} {K:PySem.W.Frag} {mg:Str→Option Value} {base:Heap} {t:Adr}
theorem cnt_kn:∀ n:Nat,knots (cntD n)=n+1
  | 0=>by kernel_rfl
  | n+1=>by
    have:=cnt_kn n
    simp only [cntD,knots,knotsL]; omega
theorem cnt_big:∀ n:Nat,bigD (cntD n)=false
  | 0=>by kernel_rfl
  | n+1=>by simp [cntD,bigD,bigL,cnt_big n]
def vvD (s m:Nat):D:=.tup [.str "var",.int ((if s=1 then m else 0:Nat):Int)]
theorem vv_dk (s m:Nat):depth (vvD s m)=1∧knots (vvD s m)=1∧(bigD (vvD s m)=true→40<m+1):=by
  unfold vvD
  refine ⟨by simp [depth,depthL],by simp [knots,knotsL],fun h=>?_⟩
  simp [bigD,bigL] at h
  split at h <;> omega
theorem vv_tg {s m:Nat}:Tg (c5S s m ["a"]) false (vvD s m) (cl "a"):=by
  unfold c5S vvD
  by_cases h:s=1
  · rw [if_pos h,if_pos h]; exact tg_ab m
  · rw [if_neg h,if_neg h]; exact tg_a
def p5S:Nat→Str
  | 0 => "a" | 1 => "(next a)" | _ => "(app a a)"
def p5D:Nat→D
  | 0=>v0D | 1=>.tup [.str "next",v0D] | _=>.tup [.str "app",v0D,v0D]
theorem p5_ok:∀ s<3,Tg ["a"] false (p5D s) (p5S s).cps.toList∧(p5S s).length≤9∧knots (p5D s)=1+s∧depth (p5D s)≤2∧bigD (p5D s)=false
  | 0,_=>⟨tg_a,by decide +kernel,by kernel_rfl,by decide +kernel,by kernel_rfl⟩
  | 1,_=>⟨by
      have:=(ln_nx tg_a).tg
      rw [show (p5S 1).cps.toList=cl "(next " ++ cl "a" ++ cl ")" by decide +kernel]
      exact this,by decide +kernel,by kernel_rfl,by decide +kernel,by kernel_rfl⟩
  | 2,_=>⟨by
      have:=(ln_app tg_a tg_a).tg
      rw [show (p5S 2).cps.toList=cl "(app " ++ cl "a" ++ cl " " ++ cl "a" ++ cl ")" by decide +kernel]
      exact this,by decide +kernel,by kernel_rfl,by decide +kernel,by kernel_rfl⟩
  | s+3,h=>absurd h (by omega)
theorem log_small {n:Nat} (h:n≤100):((n:Nat):Int).natAbs.log2<1920:=by
  have:((n:Nat):Int).natAbs=n:=by omega
  rw [this]
  have h2:n<2 ^ 1920:=Nat.lt_of_le_of_lt h (by decide)
  by_cases h0:n=0
  · rw [h0]; decide
  · exact (Nat.log2_lt h0).mpr h2
def spMade (K:PySem.W.Frag):Sp:=fun vs H Q _=>∃ (a:Addr) (ns:List Int) (y s:Nat),vs=[.ref a,.int (y:Nat),.int (s:Nat)]∧SqL K H a (ns.map V.int)∧y<7∧s<3∧∀ (r:Addr) (H':Hp),Pr (if y=2 then vnames else ["a"]) r H H'→Q (.ref r) H'
theorem nateq {a b:Nat}:decide (V.int (a:Nat)=V.int (b:Nat))=decide (a=b):=by
  by_cases h:a=b
  · rw [h]; simp
  · rw [decide_eq_false h]
    exact decide_eq_false fun q=>h (by injection q with q; omega)
theorem sc_law_made:FnScope ["_law_script", "_law_way", "_law_some", "_law_cell", "_law_many", "_law_parts", "_law_number"] ["_law_script", "_law_way", "_law_some"] (defScope s_law_made):=⟨rfl,rfl,rfl,by decide +kernel,rfl,by decide +kernel,by decide +kernel⟩
theorem c_law_made (D:Df K mg "_law_made" s_law_made ["_law_script", "_law_way", "_law_some"]) (M:Mg mg t) (F_law_cell_at:Cal P w K mg CX0 "_law_cell_at" (1) ["_law_script", "_law_k"] (spCell K)) (F_law_chain:Cal P w K mg CX0 "_law_chain" (1) ["_law_many", "_law_way", "_law_line", "_law_thing", "_law_levels"] spChain) (F_law_tree:Cal P w K mg CX0 "_law_tree" (1) ["_law_many", "_law_line", "_law_thing", "_law_knots", "_law_levels"] spTre) (F_law_far:Cal P w K mg CX0 "_law_far" (1) ["_law_number", "_law_over"] spFar) (F_law_figures:Cal P w K mg CX0 "_law_figures" (1) ["_law_number"] spFigs) (F_law_over_kind:Cal P w K mg CX0 "_law_over_kind" (2) ["_law_cell", "_law_form", "_law_some"] spOver) (F_law_near:Cal P w K mg CX0 "_law_near" (2) ["_law_knots"] spNear):Cal P w K mg CX0 "_law_made" (3) ["_law_script", "_law_way", "_law_some"] (spMade K):=by
  refine D.ok sc_law_made (fun vs H Q E h=>?_) (fun base f cdv A outer s H vs Q E hr h=>?_)
  · obtain ⟨a,ns,y,s,rfl,_⟩:=h
    rfl
  obtain ⟨a,ns,y,s,rfl,hS,hy,hs,q⟩:=h
  refine ⟨_,(pss_cons (ps_set (i:=3) sc_law_made.nd rfl (by first | exact Or.inl rfl | exact Or.inr rfl) (pe_fn F_law_cell_at (hr.mono (by omega)) rfl pass0 (pa_cons (pv 0) (pa_cons pe_int pa_nil))))
      (pss_cons (ps_set (i:=4) sc_law_made.nd rfl (by first | exact Or.inl rfl | exact Or.inr rfl) (pe_op op_add pe_int (pe_op op_mod (pv 3) pe_int)))
      (pss_cut (ps_if (pt_cmpR op_eq (pe_op op_mod (pe_op op_fdiv (pv 3) pe_int) pe_int) pe_int (nomark _)) (pss_one (ps_set (i:=4) sc_law_made.nd rfl (by first | exact Or.inl rfl | exact Or.inr rfl) (pe_op op_mod (pe_op op_fdiv (pv 3) pe_int) pe_int))) pss_nil)
      (pss_cons (ps_if (pt_cmpR op_eq (pv 1) pe_int (nomark _)) (pss_one (ps_ret (pe_fn F_law_chain (hr.mono (by omega)) rfl pass0 (pa_cons (pv 4) (pa_cons (pv 2) (pa_cons pe_str (pa_cons (pe_tup (pa_cons pe_str (pa_cons (pe_ix ix_list (pe_lst (pa_cons pe_int (pa_cons (pv 4) (pa_cons pe_int pa_nil)))) (pv 2) (fun _ _=>rfl)) pa_nil))) (pa_cons pe_int pa_nil)))))))) pss_nil)
      (pss_cons (ps_if (pt_cmpR op_eq (pv 1) pe_int (nomark _)) (pss_cons (ps_set (i:=5) sc_law_made.nd rfl (by first | exact Or.inl rfl | exact Or.inr rfl) (pe_lst (pa_cons (pe_tup (pa_cons pe_str (pa_cons pe_int pa_nil))) (pa_cons (pe_tup (pa_cons pe_str (pa_cons (pe_tup (pa_cons pe_str (pa_cons pe_int pa_nil))) pa_nil))) (pa_cons (pe_tup (pa_cons pe_str (pa_cons (pe_tup (pa_cons pe_str (pa_cons pe_int pa_nil))) (pa_cons (pe_tup (pa_cons pe_str (pa_cons pe_int pa_nil))) pa_nil)))) pa_nil)))))
      (pss_one (ps_ret (pe_fn F_law_tree (hr.mono (by omega)) rfl pass0 (pa_cons (pe_op op_add pe_int (pe_op op_mod (pv 3) pe_int)) (pa_cons (pe_ix ix_list (pe_lst (pa_cons pe_str (pa_cons pe_str (pa_cons pe_str pa_nil)))) (pv 2) (fun _ _=>rfl)) (pa_cons (pe_ix ix_list (pv 5) (pv 2) (fun _ _=>rfl)) (pa_cons (pe_op op_add pe_int (pv 2)) (pa_cons pe_int pa_nil))))))))) pss_nil)
      (pss_cons (ps_if (pt_cmpR op_eq (pv 1) pe_int (nomark _)) (pss_one (ps_ret (pe_fn F_law_far (hr.mono (by omega)) rfl pass0 (pa_cons (pe_op op_add pe_int (pe_op op_mod (pv 3) pe_int)) (pa_cons (pe_op op_mod (pe_fn F_law_cell_at (hr.mono (by omega)) rfl pass0 (pa_cons (pv 0) (pa_cons pe_int pa_nil))) pe_int) pa_nil))))) pss_nil)
      (pss_cons (ps_if (pt_cmpR op_eq (pv 1) pe_int (nomark _)) (pss_cons (ps_set (i:=6) sc_law_made.nd rfl (by first | exact Or.inl rfl | exact Or.inr rfl) (pe_op op_add pe_int (pe_op op_mod (pv 3) pe_int)))
      (pss_one (ps_ret (pe_fn F_law_chain (hr.mono (by omega)) rfl pass0 (pa_cons (pe_op op_mod (pe_op op_fdiv (pv 3) pe_int) pe_int) (pa_cons (pv 2) (pa_cons (pe_callTy call_strI rfl M.n_str bt_str (pa_cons (pv 6) pa_nil)) (pa_cons (pe_fn F_law_figures (hr.mono (by omega)) rfl pass0 (pa_cons (pv 6) pa_nil)) (pa_cons (pe_op op_add (pv 6) pe_int) pa_nil))))))))) pss_nil)
      (pss_cons (ps_if (pt_cmpR op_eq (pv 1) pe_int (nomark _)) (pss_cons (ps_set (i:=6) sc_law_made.nd rfl (by first | exact Or.inl rfl | exact Or.inr rfl) (pe_op op_add pe_int (pe_op op_mod (pv 3) pe_int)))
      (pss_one (ps_ret (pe_fn F_law_tree (hr.mono (by omega)) rfl pass0 (pa_cons (pe_op op_add pe_int (pv 2)) (pa_cons (pe_callTy call_strI rfl M.n_str bt_str (pa_cons (pv 6) pa_nil)) (pa_cons (pe_fn F_law_figures (hr.mono (by omega)) rfl pass0 (pa_cons (pv 6) pa_nil)) (pa_cons (pe_op op_add (pv 6) pe_int) (pa_cons (pe_op op_add (pv 6) pe_int) pa_nil))))))))) pss_nil)
      (pss_cons (ps_if (pt_cmpR op_eq (pv 1) pe_int (nomark _)) (pss_one (ps_ret (pe_fn F_law_over_kind (hr.mono (by omega)) rfl pass0 (pa_cons (pv 3) (pa_cons (pe_op op_mod (pe_fn F_law_cell_at (hr.mono (by omega)) rfl pass0 (pa_cons (pv 0) (pa_cons pe_int pa_nil))) pe_int) (pa_cons (pv 2) pa_nil)))))) pss_nil)
      (pss_one (ps_ret (pe_fn F_law_near (hr.mono (by omega)) rfl pass0 (pa_cons (pe_op op_add pe_int (pe_op op_mod (pv 3) pe_int)) pa_nil))))))))))))),?_⟩
  try dsimp only [cxK,cxK2]
  refine let3 ?_
  intro _ _ _
  refine ⟨_,rfl,a,ns,1,rfl,hS,?_⟩
  generalize cellN ns 1=c
  refine ⟨_,rfl,_,_,rfl,rfl,(by show (0:Int)<16; decide),_,_,rfl,rfl,?_⟩
  refine ⟨fun σ' H'=>H'=H∧∃ (m:Nat),σ'=[some (.ref a),some (.int (y:Nat)),some (.int (s:Nat)),some (.int c),some (.int (m:Nat)),none,none]∧m≤400,?_,?_⟩
  · refine ⟨_,rfl,_,_,rfl,rfl,⟨by decide,by decide⟩,_,_,rfl,rfl,(by show (0:Int)<5; decide),rfl,_,rfl,ite2 (fun _=>?_) (fun _=>?_)⟩
    · obtain ⟨k,hk,lk⟩:∃ k:Nat,c / 80 % 401=(k:Int)∧k<401:=cell_mod _ 401 (by decide)
      refine ⟨_,rfl,_,_,rfl,rfl,⟨by decide,by decide⟩,_,_,rfl,rfl,(by show (0:Int)<401; decide),rfl,k,?_,by omega⟩
      rw [← hk]
      rfl
    · obtain ⟨k,hk,lk⟩:∃ k:Nat,c % 16=(k:Int)∧k<16:=cell_mod _ 16 (by decide)
      refine ⟨rfl,30+k,?_,by omega⟩
      rw [show ((30+k:Nat):Int)=30+c % 16 by omega]
      rfl
  rintro σ' H' ⟨eH,m,rfl,hm⟩
  have eH:=eH.symm
  subst eH
  have yn:∀ {k:Nat},decide (V.int (y:Nat)=V.int (k:Nat))=true→y=k:=fun h=>by rw [nateq] at h; exact of_decide_eq_true h
  have yy:∀ {k:Nat},¬ decide (V.int (y:Nat)=V.int (k:Nat))=true→y≠k:=fun h e=>h (by rw [e]; exact decide_eq_true rfl)
  refine ⟨_,rfl,rfl,_,rfl,ite2 (fun c0=>?_) (fun c0=>?_)⟩
  · have e:=yn (k:=0) c0
    rw [if_neg (by omega)] at q
    have x1:([V.int 0,.int (m:Nat),.int 0]:List V)[s]?=some (.int ((if s=1 then m else 0:Nat):Int)):=by match s,hs with | 0,_=>rfl | 1,_=>rfl | 2,_=>rfl
    refine ⟨_,rfl,_,rfl,_,rfl,(by show 3≤sizeLine; decide),fun p1 hp1=>⟨_,rfl,p1,_,_,_,rfl,rfl,SqL.of upd_same,atI_nat x1,(by show 2≤sizeLine; decide),fun p2 hp2=>?_⟩⟩
    have t1:=same_new hp1 (.lst [V.int 0,.int (m:Nat),.int 0])
    have t2:=same_new hp2 (.tup [V.str "var",.int ((if s=1 then m else 0:Nat):Int)])
    have r2:Rep _ (vvD s m) (.ref p2):=rep_tup (H:=upd (upd H p1 (.lst [V.int 0,.int (m:Nat),.int 0])) p2 (.tup [V.str "var",.int ((if s=1 then m else 0:Nat):Int)])) upd_same (by decide +kernel) (reps1 rfl)
    obtain ⟨v1,v2,v3⟩:=vv_dk s m
    exact ⟨m,s,1, "a",.ref p2,vvD s m,["a"],rfl,hm,hs,by decide +kernel,r2,v1,by decide,by omega,v3,vv_tg,by decide +kernel,fun r H' Pp=>q r H' (Pp.up (t1.trans t2))⟩
  refine ⟨_,rfl,rfl,_,rfl,ite2 (fun c1=>?_) (fun c1=>?_)⟩
  · have e:=yn (k:=1) c1
    rw [if_neg (by omega)] at q
    obtain ⟨g1,g2,g3,g4,g5⟩:=p5_ok s hs
    obtain ⟨k,hk,lk⟩:∃ k:Nat,c % 4=(k:Int)∧k<4:=cell_mod _ 4 (by decide)
    have x1:([V.str "a",.str "(next a)",.str "(app a a)"]:List V)[s]?=some (.str (p5S s)):=by match s,hs with | 0,_=>rfl | 1,_=>rfl | 2,_=>rfl
    refine ⟨(by show 2≤sizeLine; decide),fun a1 ha1=>?_⟩
    have u1:=same_new ha1 (.tup [V.str "var",.int 0])
    have z1:Rep _ v0D (.ref a1):=rep_v0 (H:=upd H a1 (.tup [V.str "var",.int 0])) upd_same
    generalize upd H a1 (.tup [V.str "var",.int 0])=G1 at u1 z1 ⊢
    refine ⟨(by show 2≤sizeLine; decide),fun a2 ha2=>?_⟩
    have u2:=same_new ha2 (.tup [V.str "var",.int 0])
    have z2:Rep _ v0D (.ref a2):=rep_v0 (H:=upd G1 a2 (.tup [V.str "var",.int 0])) upd_same
    generalize upd G1 a2 (.tup [V.str "var",.int 0])=G2 at u2 z2 ⊢
    refine ⟨(by show 2≤sizeLine; decide),fun a3 ha3=>?_⟩
    have u3:=same_new ha3 (.tup [V.str "next",.ref a2])
    have z3:Rep (upd G2 a3 (.tup [V.str "next",.ref a2])) (p5D 1) (.ref a3):=rep_tup upd_same (by decide +kernel) (reps1 (z2.mono u3))
    generalize upd G2 a3 (.tup [V.str "next",.ref a2])=G3 at u3 z3 ⊢
    refine ⟨(by show 2≤sizeLine; decide),fun a4 ha4=>?_⟩
    have u4:=same_new ha4 (.tup [V.str "var",.int 0])
    have z4:Rep _ v0D (.ref a4):=rep_v0 (H:=upd G3 a4 (.tup [V.str "var",.int 0])) upd_same
    generalize upd G3 a4 (.tup [V.str "var",.int 0])=G4 at u4 z4 ⊢
    refine ⟨(by show 2≤sizeLine; decide),fun a5 ha5=>?_⟩
    have u5:=same_new ha5 (.tup [V.str "var",.int 0])
    have z5:Rep _ v0D (.ref a5):=rep_v0 (H:=upd G4 a5 (.tup [V.str "var",.int 0])) upd_same
    generalize upd G4 a5 (.tup [V.str "var",.int 0])=G5 at u5 z5 ⊢
    refine ⟨(by show 3≤sizeLine; decide),fun a6 ha6=>?_⟩
    have u6:=same_new ha6 (.tup [V.str "app",.ref a4,.ref a5])
    have z6:Rep (upd G5 a6 (.tup [V.str "app",.ref a4,.ref a5])) (p5D 2) (.ref a6):=rep_tup upd_same (by decide +kernel) (reps2 (z4.mono (u5.trans u6)) (z5.mono u6))
    generalize upd G5 a6 (.tup [V.str "app",.ref a4,.ref a5])=G6 at u6 z6 ⊢
    refine ⟨(by show 3≤sizeLine; decide),fun a7 ha7=>?_⟩
    have u7:=same_new ha7 (.lst [V.ref a1,.ref a3,.ref a6])
    have h7:(upd G6 a7 (.lst [V.ref a1,.ref a3,.ref a6])) a7=some (.lst [V.ref a1,.ref a3,.ref a6]):=upd_same
    generalize upd G6 a7 (.lst [V.ref a1,.ref a3,.ref a6])=G7 at u7 h7 ⊢
    have u37:=u4.trans (u5.trans (u6.trans u7))
    have u17:=u2.trans (u3.trans u37)
    obtain ⟨v,hv,rv⟩:∃ v:V,([V.ref a1,.ref a3,.ref a6]:List V)[s]?=some v∧Rep G7 (p5D s) v:=by
      match s,hs with
      | 0,_=>exact ⟨_,rfl,z1.mono u17⟩
      | 1,_=>exact ⟨_,rfl,z3.mono u37⟩
      | 2,_=>exact ⟨_,rfl,z6.mono u7⟩
    refine ⟨_,rfl,_,_,rfl,rfl,(by show (0:Int)<4; decide),_,_,rfl,rfl,(by show 3≤sizeLine; decide),fun a8 ha8=>⟨_,rfl,a8,_,_,_,rfl,rfl,SqL.of upd_same,atI_nat x1,?_⟩⟩
    have u8:=same_new ha8 (.lst [V.str "a",.str "(next a)",.str "(app a a)"])
    refine ⟨_,rfl,_,rfl,a7,_,_,v,rfl,rfl,SqL.of (u8 _ _ h7),atI_nat hv,_,rfl,_,_,rfl,rfl,?_⟩
    refine ⟨6+k,1+s,2,p5S s,v,p5D s,["a"],?_,by omega,by omega,g2,rv.mono u8,g3,by omega,g4,by decide,fun h=>by omega,g5,g1,fun r H' T v' _ _ _ _ Pp=>q r H' (Pp.up (u1.trans (u17.trans u8)))⟩
    show [V.int (6+c % 4),_,_,V.int (1+(s:Nat)),_]=_
    rw [hk,show (6:Int)+(k:Int)=((6+k:Nat):Int) by omega,show (1:Int)+((s:Nat):Int)=((1+s:Nat):Int) by omega]
    rfl
  refine ⟨_,rfl,rfl,_,rfl,ite2 (fun c2=>?_) (fun c2=>?_)⟩
  · have e:=yn (k:=2) c2
    rw [if_pos e] at q
    obtain ⟨k,hk,lk⟩:∃ k:Nat,c % 11=(k:Int)∧k<11:=cell_mod _ 11 (by decide)
    obtain ⟨o,ho,lo⟩:∃ k:Nat,cellN ns 3 % 4=(k:Int)∧k<4:=cell_mod _ 4 (by decide)
    refine ⟨_,rfl,_,_,rfl,rfl,(by show (0:Int)<11; decide),_,_,rfl,rfl,_,rfl,a,ns,3,rfl,hS,_,_,rfl,rfl,(by show (0:Int)<4; decide),95+k,o,?_,by omega,lo,q⟩
    show [V.int (95+c % 11),V.int (cellN ns 3 % 4)]=_
    rw [hk,ho,show (95:Int)+(k:Int)=((95+k:Nat):Int) by omega]
  rw [if_neg (yy (k:=2) c2)] at q
  refine ⟨_,rfl,rfl,_,rfl,ite2 (fun c3=>?_) (fun c3=>?_)⟩
  · obtain ⟨k,hk,lk⟩:∃ k:Nat,c % 10=(k:Int)∧k<10:=cell_mod _ 10 (by decide)
    obtain ⟨o,ho,lo⟩:∃ k:Nat,c / 10 % 13=(k:Int)∧k<13:=cell_mod _ 13 (by decide)
    have ek:(30:Int)+c % 10=((30+k:Nat):Int):=by omega
    refine ⟨_,rfl,_,_,rfl,rfl,(by show (0:Int)<10; decide),_,_,rfl,rfl,?_⟩
    show gName 6 (V.int (30+c % 10)) _ _ _
    rw [ek]
    refine ⟨_,rfl,_,_,rfl,rfl,⟨by decide,by decide⟩,_,_,rfl,rfl,(by show (0:Int)<13; decide),_,rfl,_,rfl,((30+k:Nat):Int),rfl,log_small (by omega),_,rfl,30+k,rfl,by omega,fun v H1 s1 r1=>⟨_,rfl,_,_,rfl,rfl,?_⟩⟩
    obtain ⟨G,gl,gs⟩:=tg_fig (scope:=c5S s o ["a"]) (n:=30+k) (by omega)
    have kn:=cnt_kn (30+k)
    refine ⟨o,s,30+k+1,Str.ofString (toString ((30+k:Nat):Int)),v,cntD (30+k),["a"],?_,by omega,hs,by omega,r1,cnt_depth _,by omega,by omega,(fun h=>by rw [cnt_big] at h; cases h),G,gl,fun r H' Pp=>q r H' (Pp.up s1)⟩
    show [V.int (c / 10 % 13),_,_,_,V.int (((30+k:Nat):Int)+1)]=_
    rw [ho,show ((30+k:Nat):Int)+1=((30+k+1:Nat):Int) by omega]
  refine ⟨_,rfl,rfl,_,rfl,ite2 (fun c4=>?_) (fun c4=>?_)⟩
  · obtain ⟨k,hk,lk⟩:∃ k:Nat,c % 30=(k:Int)∧k<30:=cell_mod _ 30 (by decide)
    have ek:(10:Int)+c % 30=((10+k:Nat):Int):=by omega
    refine ⟨_,rfl,_,_,rfl,rfl,(by show (0:Int)<30; decide),_,_,rfl,rfl,?_⟩
    show gName 6 (V.int (10+c % 30)) _ _ _
    rw [ek]
    refine ⟨_,rfl,_,_,rfl,rfl,_,rfl,((10+k:Nat):Int),rfl,log_small (by omega),_,rfl,10+k,rfl,by omega,fun v H1 s1 r1=>⟨_,rfl,_,_,rfl,rfl,_,rfl,_,_,rfl,rfl,?_⟩⟩
    obtain ⟨G,gl,gs⟩:=tg_fig (scope:=["a"]) (n:=10+k) (by omega)
    have kn:=cnt_kn (10+k)
    have dn:=cnt_depth (10+k)
    refine ⟨3+s,10+k+1,10+k+1,Str.ofString (toString ((10+k:Nat):Int)),v,cntD (10+k),["a"],?_,by omega,by omega,by omega,r1,kn,by omega,by omega,by omega,fun h=>by omega,cnt_big _,G,fun r H' T v' _ _ _ _ Pp=>q r H' (Pp.up s1)⟩
    show [V.int (3+(s:Nat)),_,_,V.int (((10+k:Nat):Int)+1),V.int (((10+k:Nat):Int)+1)]=_
    rw [show ((10+k:Nat):Int)+1=((10+k+1:Nat):Int) by omega,show (3:Int)+((s:Nat):Int)=((3+s:Nat):Int) by omega]
  refine ⟨_,rfl,rfl,_,rfl,ite2 (fun c5=>?_) (fun c5=>?_)⟩
  · obtain ⟨o,ho,lo⟩:∃ k:Nat,cellN ns 3 % 6=(k:Int)∧k<6:=cell_mod _ 6 (by decide)
    refine ⟨_,rfl,_,rfl,a,ns,3,rfl,hS,_,_,rfl,rfl,(by show (0:Int)<6; decide),_,rfl,c,o,s,?_,lo,hs,q⟩
    show [_,V.int (cellN ns 3 % 6),_]=_
    rw [ho]
  · obtain ⟨k,hk,lk⟩:∃ k:Nat,c % 13=(k:Int)∧k<13:=cell_mod _ 13 (by decide)
    refine ⟨_,rfl,_,_,rfl,rfl,(by show (0:Int)<13; decide),_,_,rfl,rfl,17+k,?_,by omega,by omega,q⟩
    show [V.int (17+c % 13)]=_
    rw [hk,show (17:Int)+(k:Int)=((17+k:Nat):Int) by omega]
end K55
end
section
set_option maxHeartbeats 4000000
namespace K55
open PySem L2 L3 KM PyProof.Rows
seal L2.PE L2.PS L2.PSs L2.PT L2.PW L2.PA L2.PG L2.PGs L2.PI L2.PC L2.PO L2.PPs L2.PK L3.PIf L3.PEp L3.PSp L3.PSsp L3.PSg L3.PH L3.PB
seal spTold
variable {P:Program} {w:World} {K:PySem.W.Frag} {mg:Str→Option Value} {base:Heap} {t:Adr}
theorem cut_end {z:Str} (h:1≤z.length):cutS z (some (-1)) none=z.cps.toList.drop (z.length-1):=by
  have e:HT.sIx z.length 0 (some (-1))=z.length-1:=by
    unfold HT.sIx
    simp
    omega
  unfold cutS
  rw [e]
  show (z.cps.toList.drop (z.length-1)).take (HT.sIx z.length z.length none-(z.length-1))=_
  rw [show HT.sIx z.length z.length none=z.length from rfl,List.take_of_length_le]
  rw [List.length_drop,← str_len]
  exact Nat.le_refl _
theorem last_cl {l:List Nat} {n:Nat} (h:l.drop n=[41]):l.getLast?=some 41:=by
  have e:=List.take_append_drop n l
  rw [h] at e
  rw [← e]
  simp
theorem tg_len {names:List Str} {d:D} {l:List Nat} (G:Tg names false d l) (h:l=[]):False:=by
  subst h
  have:=G.rd names (fo0 "term") [] { fo0 "term" with parts:=[d] } [] rfl (tk (dd := "term") (by rfl) (by rw [G.kd]; decide +kernel))
  rw [List.append_nil] at this
  have e:wS []=[]:=rfl
  rw [e] at this
  have:(some [fo0 "term"]:Option (List Fo))=some [{ fo0 "term" with parts:=[d] }]:=this
  injection this with this
  injection this with this _
  have:=congrArg Fo.parts this
  cases this
def spLaw (K:PySem.W.Frag):Sp:=fun vs H Q _=>∃ (a:Addr) (ns:List Int),vs=[.ref a]∧SqL K H a (ns.map V.int)∧∀ H',Q (.bl true) H'
theorem sc_law:FnScope ["_law_script", "_law_letters", "_law_way", "_law_names", "_law_pair", "_law_spoilt", "_law_tail", "_law_held"] ["_law_script"] (defScope s_law):=⟨rfl,rfl,rfl,by decide +kernel,rfl,by decide +kernel,by decide +kernel⟩
theorem c_law {f:Addr} {fd:FuncData} (F:Fun K "law" "law" s_law f fd) (M:Mg mg t) (F_law_cell_at:Cal P w K mg CX0 "_law_cell_at" (1) ["_law_script", "_law_k"] (spCell K)) (F_law_told:Cal P w K mg CX0 "_law_told" (68) ["_law_line", "_law_names"] spTold) (F_law_made:Cal P w K mg CX0 "_law_made" (3) ["_law_script", "_law_way", "_law_some"] (spMade K)):FnOk P w K mg base CX0 70 f fd ["_law_script"] (spLaw K):=by
  refine F.ok sc_law (fun vs H Q E h=>?_) (fun cdv A outer s H vs Q E hr h=>?_)
  · obtain ⟨a,ns,rfl,_⟩:=h
    rfl
  obtain ⟨a,ns,rfl,hS,q⟩:=h
  have h64:=hr.units
  have h1:=hu_of hr
  refine ⟨_,(pss_cons (ps_set (i:=1) sc_law.nd rfl (by first | exact Or.inl rfl | exact Or.inr rfl) pe_str)
      (pss_cons (ps_set (i:=2) sc_law.nd rfl (by first | exact Or.inl rfl | exact Or.inr rfl) (pe_op op_mod (pe_fn F_law_cell_at (hr.mono (by omega)) rfl pass0 (pa_cons (pv 0) (pa_cons pe_int pa_nil))) pe_int))
      (pss_cons (ps_set (i:=3) sc_law.nd rfl (by first | exact Or.inl rfl | exact Or.inr rfl) (pe_lst (pa_cons pe_str pa_nil)))
      (pss_cut (ps_if (pt_cmpR op_eq (pv 2) pe_int (nomark _)) (pss_one (ps_setC (ix:=3) (N':=["_law_k", "_law_letters"]) (own:=1) (fr:=[1]) sc_law.nd rfl rfl rfl (blk_of (N:=["_law_script", "_law_letters", "_law_way", "_law_names", "_law_pair", "_law_spoilt", "_law_tail", "_law_held"]) (sc:=defScope s_law) rfl rfl rfl (by decide +kernel)) (pi_range1 rfl M.n_range (pa_cons pe_int pa_nil)) (own_name (by decide)) (fun _ _ _=>(pg_name (i:=0) (show List.Nodup (["_law_k", "_law_letters"]:List Str) by decide +kernel) rfl (Or.inl rfl))) (fun _ _ _=>pif_nil) (fun _ _ _=>(pe_op op_add_str (pe_op op_add_str pe_str (pe_ix ix_str (pv 1) (pe_op op_mod (pv 0) pe_int) (fun _ _=>rfl))) (pe_ix ix_str (pv 1) (pe_op op_fdiv (pv 0) pe_int) (fun _ _=>rfl)))))) pss_nil)
      (pss_cons (ps_set (i:=4) sc_law.nd rfl (by first | exact Or.inl rfl | exact Or.inr rfl) (pe_fn F_law_made (hr.mono (by omega)) rfl pass0 (pa_cons (pv 0) (pa_cons (pv 2) (pa_cons (pe_op op_mod (pe_op op_fdiv (pe_fn F_law_cell_at (hr.mono (by omega)) rfl pass0 (pa_cons (pv 0) (pa_cons pe_int pa_nil))) pe_int) pe_int) pa_nil)))))
      (pss_cons (ps_set (i:=5) sc_law.nd rfl (by first | exact Or.inl rfl | exact Or.inr rfl) (pe_op op_mod (pe_fn F_law_cell_at (hr.mono (by omega)) rfl pass0 (pa_cons (pv 0) (pa_cons pe_int pa_nil))) pe_int))
      (pss_cons (ps_if (pt_cmpR op_eq (pv 5) pe_int (nomark _)) (pss_one (ps_ret (pe_cmpR (op_eqD h64) (pe_fn F_law_told (hr.mono (by omega)) rfl pass0 (pa_cons (pe_op op_add_str (pe_ix ix_tup (pv 4) pe_int (fun _ _=>rfl)) pe_str) (pa_cons (pv 3) pa_nil))) pe_str (nomark _)))) pss_nil)
      (pss_cut (ps_if (L2.PW.pt (pw_and (pt_cmpR op_eq (pv 5) pe_int (nomark _)) (pw_and1 (pt_cmpR op_eq (pe_slS3 (pe_ix ix_tup (pv 4) pe_int (fun _ _=>rfl)) (po_some (pe_un un_neg pe_int)) po_none po_none) pe_str (nomark _))))) (pss_one (ps_ret (pe_cmpR op_eq (pe_fn F_law_told (hr.mono (by omega)) rfl pass0 (pa_cons (pe_slS3 (pe_ix ix_tup (pv 4) pe_int (fun _ _=>rfl)) po_none (po_some (pe_un un_neg pe_int)) po_none) (pa_cons (pv 3) pa_nil))) pe_str (nomark _)))) pss_nil)
      (pss_cons (ps_if (pt_cmpR op_eq (pv 5) pe_int (nomark _)) (pss_cons (ps_set (i:=6) sc_law.nd rfl (by first | exact Or.inl rfl | exact Or.inr rfl) (pe_ix ix_list (pe_lst (pa_cons pe_str (pa_cons pe_str (pa_cons pe_str (pa_cons pe_str (pa_cons pe_str (pa_cons pe_str (pa_cons pe_str pa_nil)))))))) (pe_op op_mod (pe_op op_fdiv (pe_fn F_law_cell_at (hr.mono (by omega)) rfl pass0 (pa_cons (pv 0) (pa_cons pe_int pa_nil))) pe_int) pe_int) (fun _ _=>rfl)))
      (pss_one (ps_ret (pe_cmpR (op_eqD h64) (pe_fn F_law_told (hr.mono (by omega)) rfl pass0 (pa_cons (pe_op op_add_str (pe_op op_add_str (pe_op op_add_str pe_str (pe_ix ix_tup (pv 4) pe_int (fun _ _=>rfl))) (pv 6)) pe_str) (pa_cons (pv 3) pa_nil))) pe_str (nomark _))))) pss_nil)
      (pss_cons (ps_set (i:=7) sc_law.nd rfl (by first | exact Or.inl rfl | exact Or.inr rfl) (pe_fn F_law_told (hr.mono (by omega)) rfl pass0 (pa_cons (pe_ix ix_tup (pv 4) pe_int (fun _ _=>rfl)) (pa_cons (pv 3) pa_nil))))
      (pss_cons (ps_if (pt_cmpR (op_neD2 h64) (pe_fn F_law_told (hr.mono (by omega)) rfl pass0 (pa_cons pe_str (pa_cons (pe_lst (pa_cons pe_str pa_nil)) pa_nil))) (pe_tup (pa_cons pe_str (pa_cons (pe_tup (pa_cons pe_str (pa_cons pe_int pa_nil))) pa_nil))) (nomark _)) (pss_one (ps_ret pe_bl)) pss_nil)
      (pss_one (ps_ret (pe_and (pe_cmpR (op_eqD h64) (pv 7) (pe_ix ix_tup (pv 4) pe_int (fun _ _=>rfl)) (nomark _)) (pe_one (pe_cmpR (op_eqD h64) (pe_fn F_law_told (hr.mono (by omega)) rfl pass0 (pa_cons (pe_ix ix_tup (pv 4) pe_int (fun _ _=>rfl)) (pa_cons (pv 3) pa_nil))) (pv 7) (nomark _))))))))))))))))),?_⟩
  try dsimp only [cxK,cxK2]
  refine let4 ?_
  intro _ _ _ _
  obtain ⟨y,hy,ly⟩:∃ k:Nat,cellN ns 0 % 7=(k:Int)∧k<7:=cell_mod _ 7 (by decide)
  obtain ⟨so,hso,so3⟩:∃ k:Nat,cellN ns 0 / 7 % 3=(k:Int)∧k<3:=cell_mod _ 3 (by decide)
  refine ⟨_,rfl,a,ns,0,rfl,hS,_,_,rfl,rfl,(by show (0:Int)<7; decide),?_⟩
  refine ⟨(by show 1≤sizeLine; decide),fun p1 hp1=>?_⟩
  have t1:=same_new hp1 (.lst [V.str "a"])
  have h1:(upd H p1 (.lst [V.str "a"])) p1=some (.lst ((["a"]:List Str).map V.str)):=upd_same
  generalize upd H p1 (.lst [V.str "a"])=H1 at t1 h1 ⊢
  refine ⟨fun σ' H'=>∃ (nb:Addr),σ'=[some (.ref a),some (.str abcS),some (.int (cellN ns 0 % 7)),some (.ref nb),none,none,none,none]∧Same H H'∧H' nb=some (.lst ((if y=2 then vnames else ["a"]:List Str).map V.str)),?_,?_⟩
  · refine ⟨_,rfl,rfl,_,rfl,ite2 (fun c0=>?_) (fun c0=>⟨p1,rfl,t1,?_⟩)⟩
    · have c0:y=2:=by have:=of_decide_eq_true c0; injection this with this; omega
      rw [if_pos c0]
      refine ⟨106,rfl,(by decide),(by decide),fun p5 hp5=>?_⟩
      refine comp_prop 106 (fun i v=>v=.str (vnm i)) hp5 (by decide) (fun k H4 hk s4=>⟨hk,?_⟩) fun vs H4 s4 hl hB h4=>⟨Nat.le_refl _,?_⟩
      · rintro x' H5 ⟨rfl,rfl⟩ R hR
        rw [show (0:Int)+(k:Int)=((k:Nat):Int) by omega]
        have e1:((k:Nat):Int) % 26=((k % 26:Nat):Int):=by omega
        have e2:((k:Nat):Int) / 26=((k / 26:Nat):Int):=by omega
        have n3:abcS.length=26:=by decide +kernel
        have n4:∀ c:Nat,(⟨#[c]⟩:Str).length=1:=fun _=>rfl
        have n5:(Str.ofString "v").length=1:=by decide +kernel
        refine ⟨_,rfl,_,rfl,_,_,rfl,rfl,(by show (0:Int)<26; decide),abcS,_,97+k % 26,rfl,rfl,big (by omega),(by rw [e1]; exact abc_at (by omega)),_,_,rfl,rfl,big (by rw [n4]; omega),?_⟩
        refine ⟨_,rfl,_,rfl,_,_,rfl,rfl,⟨by decide,by decide⟩,abcS,_,97+k / 26,rfl,rfl,big (by omega),(by rw [e2]; exact abc_at (by omega)),_,_,rfl,rfl,big (by rw [lapp,n4,n4]; omega),?_⟩
        exact hR _ _ (fun _ _ h=>h) rfl
      have hvs:vs=vnames.map V.str:=by
        refine List.ext_getElem? fun i=>?_
        by_cases hi:i<106
        · obtain ⟨z,hz⟩:∃ z,vs[i]?=some z:=⟨_,List.getElem?_eq_getElem (by omega)⟩
          rw [hz,hB i z hz]
          unfold vnames
          rw [List.getElem?_map,List.getElem?_map,List.getElem?_range hi]
          rfl
        · rw [List.getElem?_eq_none (by omega),List.getElem?_eq_none (by unfold vnames; rw [List.length_map,List.length_map,List.length_range]; omega)]
      rw [hvs] at h4
      exact ⟨p5,rfl,t1.trans s4,h4⟩
    · have c0:y≠2:=fun e=>c0 (decide_eq_true (by show V.int (cellN ns 0 % 7)=V.int 2; rw [hy,e]; rfl))
      rw [if_neg c0]
      exact h1
  clear h1 t1
  rintro σ' H2 ⟨nb,rfl,s2,h2⟩
  have hnl:(if y=2 then vnames else ["a"]:List Str).length≤1000:=by
    split
    · decide +kernel
    · decide
  generalize hnm:(if y=2 then vnames else ["a"]:List Str)=names at h2 hnl
  refine ⟨_,rfl,_,rfl,_,rfl,a,ns,0,rfl,sqlM hS s2,_,_,rfl,rfl,⟨by decide,by decide⟩,_,_,rfl,rfl,(by show (0:Int)<3; decide),a,ns,y,so,?_,sqlM hS s2,ly,so3,fun r H3 P3=>?_⟩
  · show [_,V.int (cellN ns 0 % 7),V.int (cellN ns 0 / 7 % 3)]=_
    rw [hy,hso]
  rw [hnm] at P3
  obtain ⟨s3,P3⟩:=P3.pn
  have h3:=s3 _ _ h2
  have s3:=s2.trans s3
  obtain ⟨T,v,d,hr,hT,G,hL,hk,rv⟩:=P3.ex
  have S3:=sqlM hS s3
  have hT1:1≤T.length:=by
    rw [str_len]
    cases e:T.cps.toList with
    | nil=>exact (tg_len G e).elim
    | cons _ _=>simp
  have hn0:(Str.ofString "none").length≤1000:=by decide +kernel
  have hno:∀ (R:V→Hp→Prop) (H':Hp),R (.bl true) H'→rEqD true (.str "none") (.str "none") H' R:=fun R H' h=>⟨.str "none",.str "none",true,rep_str hn0,rep_str hn0,by decide +kernel,by decide +kernel,by decide +kernel,by decide +kernel,⟨fun _=>rfl,fun _=>rfl⟩,h⟩
  have hlast:∀ (y:Str),y∈tks [")"]→1≤y.length∧y.length≤12:=fun y hy=>by
    have:y = ")" := by simpa [tks] using hy
    rw [this]
    exact ⟨by decide +kernel,by decide +kernel⟩
  have n1:(Str.ofString ")").length=1:=by decide +kernel
  refine ⟨_,rfl,a,ns,2,rfl,S3,_,_,rfl,rfl,(by show (0:Int)<5; decide),?_⟩
  refine ⟨_,rfl,rfl,_,rfl,ite2 (fun _=>?_) (fun _=>?_)⟩
  · refine ⟨_,rfl,r,_,_,_,rfl,rfl,SqT.of hr,atI_nat (j:=0) rfl,_,_,rfl,rfl,(by rw [sizeLine_eq]; omega),_,rfl,?_⟩
    have e:(T++Str.ofString ")").cps.toList=T.cps.toList++[41]:=by rw [capp]; rfl
    refine told_none (T:=T++Str.ofString ")") (names:=names) ?_ h3 hnl (fun z hz=>?_) ?_ fun H' _=>?_
    · rw [lapp]; omega
    · rw [e,wS_cl] at hz
      rcases List.mem_append.mp hz with h | h
      · exact G.wd z h
      · exact hlast z h
    · rw [e]; exact no_more5 G
    · exact hno _ H' (q H')
  refine ⟨fun σ' H'=>σ'=[some (.ref a),some (.str abcS),some (.int (cellN ns 0 % 7)),some (.ref nb),some (.ref r),some (.int (cellN ns 2 % 5)),none,none]∧H'=H3,?_,?_⟩
  · refine ⟨_,rfl,rfl,_,rfl,ite2 (fun _=>?_) (fun _=>iteF ⟨rfl,rfl⟩)⟩
    refine ⟨_,rfl,r,_,_,_,rfl,rfl,SqT.of hr,atI_nat (j:=0) rfl,?_⟩
    refine ⟨1,rfl,-1,rfl,T,rfl,(by rw [sizeLine_eq]; omega),rfl,fun z hz=>?_⟩
    rw [cut_end hT1] at hz
    refine ⟨rfl,_,rfl,ite2 (fun c2=>?_) (fun _=>⟨rfl,rfl⟩)⟩
    have c2:z=Str.ofString ")" := by have:=of_decide_eq_true c2; injection this
    have hL:Ln names false d T.cps.toList:=by
      rcases hL with h | h
      · exact h
      · refine absurd (last_cl (n:=T.length-1) ?_) h
        rw [← hz,c2]
        decide +kernel
    refine ⟨_,rfl,r,_,_,_,rfl,rfl,SqT.of hr,atI_nat (j:=0) rfl,?_⟩
    obtain ⟨x,bn,ps,l0,e0,hx,hxk,P0,hl0,hd0⟩:=id hL
    have hT1:T.length=l0.length+1:=by rw [str_len,e0,List.length_append]; rfl
    have hdo:∀ y:Str,y.cps.toList=cutS T none (some (-1))→y.cps.toList=l0:=fun y hy=>by
      rw [hy,cut_last (by omega),e0,hT1,Nat.add_sub_cancel,List.take_left']
      rfl
    refine ⟨1,rfl,-1,rfl,T,rfl,(by rw [sizeLine_eq]; omega),rfl,fun y hy=>?_⟩
    have hy:=hdo y hy
    refine ⟨_,rfl,?_⟩
    refine told_none (T:=y) (names:=names) ?_ h3 hnl (fun z hz=>?_) ?_ fun H' _=>?_
    · rw [str_len,hy]; omega
    · rw [hy] at hz; exact P0.wd z hz
    · rw [hy]; rw [e0] at hL; exact no_less5 hL
    · exact ⟨rfl,q H'⟩
  rintro σ' H3' ⟨rfl,eH⟩
  have eH:=eH.symm
  subst eH
  refine ⟨_,rfl,rfl,_,rfl,ite2 (fun _=>?_) (fun _=>?_)⟩
  · obtain ⟨q7,hq7,lq7⟩:∃ k:Nat,cellN ns 2 / 5 % 7=(k:Int)∧k<7:=cell_mod _ 7 (by decide)
    obtain ⟨z,hz,hzm⟩:∃ z:Str,(tails5.map V.str)[q7]?=some (.str z)∧z∈tails5:=by
      have hl:q7<tails5.length:=lq7
      exact ⟨tails5[q7],by rw [List.getElem?_map,List.getElem?_eq_getElem hl]; rfl,List.getElem_mem hl⟩
    refine ⟨(by show 7≤sizeLine; decide),fun p5 hp5=>?_⟩
    have t5:=same_new hp5 (.lst (tails5.map V.str))
    have h5:(upd H3 p5 (.lst (tails5.map V.str))) p5=some (.lst (tails5.map V.str)):=upd_same
    show _
    refine ⟨_,rfl,a,ns,2,rfl,sqlM S3 t5,_,_,rfl,rfl,⟨by decide,by decide⟩,_,_,rfl,rfl,(by show (0:Int)<7; decide),p5,_,_,.str z,rfl,rfl,SqL.of h5,(by rw [hq7]; exact atI_nat hz),?_⟩
    have hz12:z.length≤8:=of_decide_eq_true (List.all_eq_true.mp (show (tails5.all fun z=>decide (z.length≤8))=true by decide +kernel) z hzm)
    have n2:(Str.ofString "(app ").length=5:=by decide +kernel
    refine ⟨_,rfl,r,_,_,_,rfl,rfl,SqT.of (t5 _ _ hr),atI_nat (j:=0) rfl,_,_,rfl,rfl,(by rw [sizeLine_eq]; omega),_,rfl,_,_,rfl,rfl,(by rw [lapp,sizeLine_eq]; omega),_,_,rfl,rfl,(by rw [lapp,lapp,sizeLine_eq]; omega),_,rfl,?_⟩
    have e:(Str.ofString "(app " ++ T++z++Str.ofString ")").cps.toList=cl "(app " ++ T.cps.toList++z.cps.toList++[41]:=by rw [capp,capp,capp]; rfl
    refine told_none (T:=Str.ofString "(app " ++ T++z++Str.ofString ")") (names:=names) ?_ (t5 _ _ h3) hnl (fun y hy=>?_) ?_ fun H' _=>?_
    · rw [lapp,lapp,lapp]; omega
    · rw [e] at hy
      exact tail_wd G hzm y hy
    · rw [e]; exact no_tail5 G hzm
    · exact hno _ H' (q H')
  refine ⟨_,rfl,r,_,_,_,rfl,rfl,SqT.of hr,atI_nat (j:=0) rfl,_,rfl,?_⟩
  refine told_some (T:=T) (names:=names) (by omega) h3 hnl G hk fun v1 H4 s4 r4=>?_
  refine ⟨(by show 1≤sizeLine; decide),fun p5 hp5=>?_⟩
  have t5:=same_new hp5 (.lst [V.str "a"])
  have h5:(upd H4 p5 (.lst [V.str "a"])) p5=some (.lst ((["a"]:List Str).map V.str)):=upd_same
  generalize upd H4 p5 (.lst [V.str "a"])=H5 at t5 h5 ⊢
  have hLa:Tg ["a"] false (p5D 1) (Str.ofString "(next a)").cps.toList:=(p5_ok 1 (by decide)).1
  refine told_some (T := "(next a)") (names:=["a"]) (d:=p5D 1) (by decide +kernel) h5 (by decide) hLa (by decide +kernel) fun v2 H6 s6 r6=>?_
  refine ⟨(by show 2≤sizeLine; decide),fun p7 hp7=>?_⟩
  have t7:=same_new hp7 (.tup [V.str "var",.int 0])
  have y7:Rep (upd H6 p7 (.tup [V.str "var",.int 0])) v0D (.ref p7):=rep_v0 upd_same
  generalize upd H6 p7 (.tup [V.str "var",.int 0])=H7 at t7 y7 ⊢
  refine ⟨(by show 2≤sizeLine; decide),fun p8 hp8=>?_⟩
  have t8:=same_new hp8 (.tup [V.str "next",.ref p7])
  have y9:Rep (upd H7 p8 (.tup [V.str "next",.ref p7])) (p5D 1) (.ref p8):=rep_tup upd_same (by decide +kernel) (reps1 (y7.mono t8))
  generalize upd H7 p8 (.tup [V.str "next",.ref p7])=H9 at t8 y9 ⊢
  have t79:=t7.trans t8
  have e2:dueV (p5D 1)=p5D 1:=by
    unfold dueV
    rw [if_neg (by decide +kernel)]
  rw [e2] at r6
  have s49:=t5.trans (s6.trans t79)
  have s39:=s4.trans s49
  have dp:=due_dp d
  have cm:=due_cm G.cm
  refine ⟨p5D 1,p5D 1,true,r6.mono t79,y9,by decide +kernel,by decide +kernel,by decide +kernel,by decide +kernel,⟨fun _=>rfl,fun _=>rfl⟩,_,rfl,iteF ?_⟩
  refine ⟨_,rfl,_,rfl,r,_,_,_,rfl,rfl,SqT.of (s39 _ _ hr),atI_nat (j:=1) rfl,dueV d,dueV d,true,r4.mono s49,rv.mono s39,dp,dp,cm,cm,⟨fun _=>rfl,fun _=>rfl⟩,_,rfl,iteT ?_⟩
  refine ⟨_,rfl,r,_,_,_,rfl,rfl,SqT.of (s39 _ _ hr),atI_nat (j:=0) rfl,_,rfl,?_⟩
  refine told_some (T:=T) (names:=names) (by omega) (s39 _ _ h3) hnl G hk fun v9 H10 s10 r10=>?_
  exact ⟨_,rfl,dueV d,dueV d,true,r10,r4.mono (s49.trans s10),dp,dp,cm,cm,⟨fun _=>rfl,fun _=>rfl⟩,q H10⟩
end K55
end
section
set_option maxHeartbeats 4000000
namespace K55
open PySem L2 L3 KM
theorem c_cell {P:Program} {w:World} {K:PySem.W.Frag} {mg:Str→Option Value} {t:Adr} (D:Df K mg "_law_cell_at" s_law_cell_at ["_law_script", "_law_k"]) (M:Mg mg t):Cal P w K mg CX0 "_law_cell_at" (1) ["_law_script", "_law_k"] (spCell K):=by
  obtain ⟨f,fd,F,m,b⟩:=D
  exact ⟨f,fd,fun base=>ok_cell F M.n_len,m,F.kp,b⟩
structure Txt (K:PySem.W.Frag) (mg:Str→Option Value) (t:Adr):Prop where
  M:Mg mg t
  D_is_name:Df K mg "is_name" s_is_name ["value"]
  D_is_vast:Df K mg "is_vast" s_is_vast ["value"]
  D_kids_of:Df K mg "kids_of" s_kids_of ["thing"]
  D_top_variable:Df K mg "top_variable" s_top_variable ["thing"]
  D_bounded:Df K mg "bounded" s_bounded ["thing"]
  D_words_of:Df K mg "words_of" s_words_of ["text"]
  D_form_of:Df K mg "form_of" s_form_of ["head"]
  D_thing_named:Df K mg "thing_named" s_thing_named ["word", "forms", "names"]
  D_is_figure:Df K mg "is_figure" s_is_figure ["word"]
  D_count_of:Df K mg "count_of" s_count_of ["number"]
  D_leaf_of:Df K mg "leaf_of" s_leaf_of ["word", "forms", "names"]
  D_read_thing:Df K mg "read_thing" s_read_thing ["text", "names", "due"]
  D_read_term:Df K mg "read_term" s_read_term ["text", "names"]
  D_law_cell_at:Df K mg "_law_cell_at" s_law_cell_at ["_law_script", "_law_k"]
  D_law_told:Df K mg "_law_told" s_law_told ["_law_line", "_law_names"]
  D_law_chain:Df K mg "_law_chain" s_law_chain ["_law_many", "_law_way", "_law_line", "_law_thing", "_law_levels"]
  D_law_tree:Df K mg "_law_tree" s_law_tree ["_law_many", "_law_line", "_law_thing", "_law_knots", "_law_levels"]
  D_law_far:Df K mg "_law_far" s_law_far ["_law_number", "_law_over"]
  D_law_figures:Df K mg "_law_figures" s_law_figures ["_law_number"]
  D_law_made:Df K mg "_law_made" s_law_made ["_law_script", "_law_way", "_law_some"]
  D_law_nexts:Df K mg "_law_nexts" s_law_nexts ["_law_knots"]
  D_law_near:Df K mg "_law_near" s_law_near ["_law_knots"]
  D_law_kind:Df K mg "_law_kind" s_law_kind ["_law_many", "_law_some"]
  D_law_over_kind:Df K mg "_law_over_kind" s_law_over_kind ["_law_cell", "_law_form", "_law_some"]
  D_law:Df K mg "law" s_law ["_law_script"]
  T_KIND_WORDS:SqK K t.KIND_WORDS [.str "nat",.str "none",.str "all",.str "some",.str "same"]
  T_KIDS_DUE:∃ as,KD K t.KIDS_DUE [("nat",[]),("none",[]),("all",[.str "kind",.str "kind"]),("some",[.str "kind",.str "kind"]),("same",[.str "kind",.str "term",.str "term"]),("var",[]),("fun",[.str "kind",.str "term"]),("app",[.str "term",.str "term"]),("zero",[]),("next",[.str "term"]),("rec",[.str "kind",.str "term",.str "term",.str "term"]),("like",[.str "kind",.str "term"]),("carry",[.str "kind",.str "term",.str "term"]),("never",[.str "kind",.str "term"]),("pair",[.str "kind",.str "term",.str "term"]),("first",[.str "term"]),("second",[.str "term"]),("name",[])] as
  T_BINDER_OVER:TabK K t.BINDER_OVER [("all",.int 1),("some",.int 1),("fun",.int 1),("rec",.int 0),("carry",.int 0)]
  K_Form:FormK K t.Form
  N_Form:PySem.W.makesIn K t.Form=true∧PySem.W.keepIn K (.ref t.Form)=true
  D_Form_init:Dm K t.Form "__init__" "Form.__init__" s_Form_init ["self", "word", "name", "due"]
  D_Form_binds_here:Dm K t.Form "binds_here" "Form.binds_here" s_Form_binds_here ["self"]
  D_Form_is_full:Dm K t.Form "is_full" "Form.is_full" s_Form_is_full ["self"]
  D_Form_take:Dm K t.Form "take" "Form.take" s_Form_take ["self", "thing"]
  D_Form_closed:Dm K t.Form "closed" "Form.closed" s_Form_closed ["self"]
  X:Ek K t
theorem txt_mk {K:PySem.W.Frag} {h:Heap} {mg:Str→Option Value} (X:K.In h) (G:h.Ns mainGlobals mg)
    {tk_MOST_KNOTS:Tok}
    {tk_MOST_DEEP:Tok}
    {tk_MOST_VARIABLE:Tok}
    {tk_MOST_LETTERS:Tok}
    {tk_LETTERS:Tok}
    {t_KIND_WORDS:Addr}
    {td_KIND_WORDS:Option Addr} {ti_KIND_WORDS:Array Value} {tn_KIND_WORDS:Nat} {ts_KIND_WORDS:Array (Option Value)}
    {t_KIDS_DUE:Addr}
    {es_KIDS_DUE:Array DictEntry} {ep_KIDS_DUE:Nat}
    {b0_KIDS_DUE b1_KIDS_DUE b2_KIDS_DUE b3_KIDS_DUE b4_KIDS_DUE b5_KIDS_DUE b6_KIDS_DUE b7_KIDS_DUE b8_KIDS_DUE b9_KIDS_DUE b10_KIDS_DUE b11_KIDS_DUE b12_KIDS_DUE b13_KIDS_DUE b14_KIDS_DUE b15_KIDS_DUE b16_KIDS_DUE b17_KIDS_DUE:Addr}
    {d17_KIDS_DUE:Option Addr} {i17_KIDS_DUE:Array Value} {n17_KIDS_DUE:Nat} {s17_KIDS_DUE:Array (Option Value)}
    {d16_KIDS_DUE:Option Addr} {i16_KIDS_DUE:Array Value} {n16_KIDS_DUE:Nat} {s16_KIDS_DUE:Array (Option Value)}
    {d15_KIDS_DUE:Option Addr} {i15_KIDS_DUE:Array Value} {n15_KIDS_DUE:Nat} {s15_KIDS_DUE:Array (Option Value)}
    {d14_KIDS_DUE:Option Addr} {i14_KIDS_DUE:Array Value} {n14_KIDS_DUE:Nat} {s14_KIDS_DUE:Array (Option Value)}
    {d13_KIDS_DUE:Option Addr} {i13_KIDS_DUE:Array Value} {n13_KIDS_DUE:Nat} {s13_KIDS_DUE:Array (Option Value)}
    {d12_KIDS_DUE:Option Addr} {i12_KIDS_DUE:Array Value} {n12_KIDS_DUE:Nat} {s12_KIDS_DUE:Array (Option Value)}
    {d11_KIDS_DUE:Option Addr} {i11_KIDS_DUE:Array Value} {n11_KIDS_DUE:Nat} {s11_KIDS_DUE:Array (Option Value)}
    {d10_KIDS_DUE:Option Addr} {i10_KIDS_DUE:Array Value} {n10_KIDS_DUE:Nat} {s10_KIDS_DUE:Array (Option Value)}
    {d9_KIDS_DUE:Option Addr} {i9_KIDS_DUE:Array Value} {n9_KIDS_DUE:Nat} {s9_KIDS_DUE:Array (Option Value)}
    {d8_KIDS_DUE:Option Addr} {i8_KIDS_DUE:Array Value} {n8_KIDS_DUE:Nat} {s8_KIDS_DUE:Array (Option Value)}
    {d7_KIDS_DUE:Option Addr} {i7_KIDS_DUE:Array Value} {n7_KIDS_DUE:Nat} {s7_KIDS_DUE:Array (Option Value)}
    {d6_KIDS_DUE:Option Addr} {i6_KIDS_DUE:Array Value} {n6_KIDS_DUE:Nat} {s6_KIDS_DUE:Array (Option Value)}
    {d5_KIDS_DUE:Option Addr} {i5_KIDS_DUE:Array Value} {n5_KIDS_DUE:Nat} {s5_KIDS_DUE:Array (Option Value)}
    {d4_KIDS_DUE:Option Addr} {i4_KIDS_DUE:Array Value} {n4_KIDS_DUE:Nat} {s4_KIDS_DUE:Array (Option Value)}
    {d3_KIDS_DUE:Option Addr} {i3_KIDS_DUE:Array Value} {n3_KIDS_DUE:Nat} {s3_KIDS_DUE:Array (Option Value)}
    {d2_KIDS_DUE:Option Addr} {i2_KIDS_DUE:Array Value} {n2_KIDS_DUE:Nat} {s2_KIDS_DUE:Array (Option Value)}
    {d1_KIDS_DUE:Option Addr} {i1_KIDS_DUE:Array Value} {n1_KIDS_DUE:Nat} {s1_KIDS_DUE:Array (Option Value)}
    {d0_KIDS_DUE:Option Addr} {i0_KIDS_DUE:Array Value} {n0_KIDS_DUE:Nat} {s0_KIDS_DUE:Array (Option Value)}
    {t_BINDER_OVER:Addr}
    {es_BINDER_OVER:Array DictEntry} {ep_BINDER_OVER:Nat}
    {tk_FIGURES:Tok}
    {tk_MOST_FIGURE:Tok}
    {t_KeeperError:Addr}
    {t_Great:Addr}
    {t_NoText:Addr}
    {t_Form:Addr}
    {f_Form_init:Addr} {od_Form_init an_Form_init:Option Addr} {sl_Form_init:Array (Option Value)} {oc_Form_init kV_Form_init dc_Form_init pm_Form_init cd_Form_init ct_Form_init:Value}
    {f_Form_binds_here:Addr} {od_Form_binds_here an_Form_binds_here:Option Addr} {sl_Form_binds_here:Array (Option Value)} {oc_Form_binds_here kV_Form_binds_here dc_Form_binds_here pm_Form_binds_here cd_Form_binds_here ct_Form_binds_here:Value}
    {f_Form_is_full:Addr} {od_Form_is_full an_Form_is_full:Option Addr} {sl_Form_is_full:Array (Option Value)} {oc_Form_is_full kV_Form_is_full dc_Form_is_full pm_Form_is_full cd_Form_is_full ct_Form_is_full:Value}
    {f_Form_take:Addr} {od_Form_take an_Form_take:Option Addr} {sl_Form_take:Array (Option Value)} {oc_Form_take kV_Form_take dc_Form_take pm_Form_take cd_Form_take ct_Form_take:Value}
    {f_Form_closed:Addr} {od_Form_closed an_Form_closed:Option Addr} {sl_Form_closed:Array (Option Value)} {oc_Form_closed kV_Form_closed dc_Form_closed pm_Form_closed cd_Form_closed ct_Form_closed:Value}
    (a0:DfIn K "is_name" s_is_name)
    (a1:DfIn K "is_vast" s_is_vast)
    (a2:DfIn K "kids_of" s_kids_of)
    (a3:DfIn K "top_variable" s_top_variable)
    (a4:DfIn K "bounded" s_bounded)
    (a5:DfIn K "words_of" s_words_of)
    (a6:DfIn K "form_of" s_form_of)
    (a7:DfIn K "thing_named" s_thing_named)
    (a8:DfIn K "is_figure" s_is_figure)
    (a9:DfIn K "count_of" s_count_of)
    (a10:DfIn K "leaf_of" s_leaf_of)
    (a11:DfIn K "read_thing" s_read_thing)
    (a12:DfIn K "read_term" s_read_term)
    (a13:DfIn K "_law_cell_at" s_law_cell_at)
    (a14:DfIn K "_law_told" s_law_told)
    (a15:DfIn K "_law_chain" s_law_chain)
    (a16:DfIn K "_law_tree" s_law_tree)
    (a17:DfIn K "_law_far" s_law_far)
    (a18:DfIn K "_law_figures" s_law_figures)
    (a19:DfIn K "_law_made" s_law_made)
    (a20:DfIn K "_law_nexts" s_law_nexts)
    (a21:DfIn K "_law_near" s_law_near)
    (a22:DfIn K "_law_kind" s_law_kind)
    (a23:DfIn K "_law_over_kind" s_law_over_kind)
    (a24:DfIn K "law" s_law)
    (z_all:PySem.W.nsIn K mainGlobals "all" = some none)
    (z_int:PySem.W.nsIn K mainGlobals "int" = some none)
    (z_isinstance:PySem.W.nsIn K mainGlobals "isinstance" = some none)
    (z_len:PySem.W.nsIn K mainGlobals "len" = some none)
    (z_list:PySem.W.nsIn K mainGlobals "list" = some none)
    (z_max:PySem.W.nsIn K mainGlobals "max" = some none)
    (z_range:PySem.W.nsIn K mainGlobals "range" = some none)
    (z_reversed:PySem.W.nsIn K mainGlobals "reversed" = some none)
    (z_str:PySem.W.nsIn K mainGlobals "str" = some none)
    (z_tuple:PySem.W.nsIn K mainGlobals "tuple" = some none)
    (g_MOST_KNOTS:PySem.W.nsIn K mainGlobals "MOST_KNOTS" = some (some (.int 600 tk_MOST_KNOTS)))
    (g_MOST_DEEP:PySem.W.nsIn K mainGlobals "MOST_DEEP" = some (some (.int 40 tk_MOST_DEEP)))
    (g_MOST_VARIABLE:PySem.W.nsIn K mainGlobals "MOST_VARIABLE" = some (some (.int 99 tk_MOST_VARIABLE)))
    (g_MOST_LETTERS:PySem.W.nsIn K mainGlobals "MOST_LETTERS" = some (some (.int 12 tk_MOST_LETTERS)))
    (g_LETTERS:PySem.W.nsIn K mainGlobals "LETTERS" = some (some (.str "abcdefghijklmnopqrstuvwxyz" tk_LETTERS)))
    (g_KIND_WORDS:PySem.W.nsIn K mainGlobals "KIND_WORDS" = some (some (.ref t_KIND_WORDS)))
    (lk_KIND_WORDS:K.lookup t_KIND_WORDS=some ⟨.type "tuple",td_KIND_WORDS,.seq ti_KIND_WORDS tn_KIND_WORDS,ts_KIND_WORDS⟩)
    (vs_KIND_WORDS:seqChk [.str "nat",.str "none",.str "all",.str "some",.str "same"] ti_KIND_WORDS=true)
    (g_KIDS_DUE:PySem.W.nsIn K mainGlobals "KIDS_DUE" = some (some (.ref t_KIDS_DUE)))
    (lk_KIDS_DUE:K.lookup t_KIDS_DUE=some ⟨.type "dict",none,.dict es_KIDS_DUE ep_KIDS_DUE,#[]⟩)
    (sy_KIDS_DUE:(t_KIDS_DUE==sysModules)=false)
    (ks_KIDS_DUE:rowsChk es_KIDS_DUE.toList ["nat", "none", "all", "some", "same", "var", "fun", "app", "zero", "next", "rec", "like", "carry", "never", "pair", "first", "second", "name"]=true)
    (rf_KIDS_DUE:refsOf es_KIDS_DUE.toList=[b0_KIDS_DUE,b1_KIDS_DUE,b2_KIDS_DUE,b3_KIDS_DUE,b4_KIDS_DUE,b5_KIDS_DUE,b6_KIDS_DUE,b7_KIDS_DUE,b8_KIDS_DUE,b9_KIDS_DUE,b10_KIDS_DUE,b11_KIDS_DUE,b12_KIDS_DUE,b13_KIDS_DUE,b14_KIDS_DUE,b15_KIDS_DUE,b16_KIDS_DUE,b17_KIDS_DUE])
    (u0_KIDS_DUE:K.lookup b0_KIDS_DUE=some ⟨.type "tuple",d0_KIDS_DUE,.seq i0_KIDS_DUE n0_KIDS_DUE,s0_KIDS_DUE⟩)
    (v0_KIDS_DUE:seqChk [] i0_KIDS_DUE=true)
    (u1_KIDS_DUE:K.lookup b1_KIDS_DUE=some ⟨.type "tuple",d1_KIDS_DUE,.seq i1_KIDS_DUE n1_KIDS_DUE,s1_KIDS_DUE⟩)
    (v1_KIDS_DUE:seqChk [] i1_KIDS_DUE=true)
    (u2_KIDS_DUE:K.lookup b2_KIDS_DUE=some ⟨.type "tuple",d2_KIDS_DUE,.seq i2_KIDS_DUE n2_KIDS_DUE,s2_KIDS_DUE⟩)
    (v2_KIDS_DUE:seqChk [.str "kind",.str "kind"] i2_KIDS_DUE=true)
    (u3_KIDS_DUE:K.lookup b3_KIDS_DUE=some ⟨.type "tuple",d3_KIDS_DUE,.seq i3_KIDS_DUE n3_KIDS_DUE,s3_KIDS_DUE⟩)
    (v3_KIDS_DUE:seqChk [.str "kind",.str "kind"] i3_KIDS_DUE=true)
    (u4_KIDS_DUE:K.lookup b4_KIDS_DUE=some ⟨.type "tuple",d4_KIDS_DUE,.seq i4_KIDS_DUE n4_KIDS_DUE,s4_KIDS_DUE⟩)
    (v4_KIDS_DUE:seqChk [.str "kind",.str "term",.str "term"] i4_KIDS_DUE=true)
    (u5_KIDS_DUE:K.lookup b5_KIDS_DUE=some ⟨.type "tuple",d5_KIDS_DUE,.seq i5_KIDS_DUE n5_KIDS_DUE,s5_KIDS_DUE⟩)
    (v5_KIDS_DUE:seqChk [] i5_KIDS_DUE=true)
    (u6_KIDS_DUE:K.lookup b6_KIDS_DUE=some ⟨.type "tuple",d6_KIDS_DUE,.seq i6_KIDS_DUE n6_KIDS_DUE,s6_KIDS_DUE⟩)
    (v6_KIDS_DUE:seqChk [.str "kind",.str "term"] i6_KIDS_DUE=true)
    (u7_KIDS_DUE:K.lookup b7_KIDS_DUE=some ⟨.type "tuple",d7_KIDS_DUE,.seq i7_KIDS_DUE n7_KIDS_DUE,s7_KIDS_DUE⟩)
    (v7_KIDS_DUE:seqChk [.str "term",.str "term"] i7_KIDS_DUE=true)
    (u8_KIDS_DUE:K.lookup b8_KIDS_DUE=some ⟨.type "tuple",d8_KIDS_DUE,.seq i8_KIDS_DUE n8_KIDS_DUE,s8_KIDS_DUE⟩)
    (v8_KIDS_DUE:seqChk [] i8_KIDS_DUE=true)
    (u9_KIDS_DUE:K.lookup b9_KIDS_DUE=some ⟨.type "tuple",d9_KIDS_DUE,.seq i9_KIDS_DUE n9_KIDS_DUE,s9_KIDS_DUE⟩)
    (v9_KIDS_DUE:seqChk [.str "term"] i9_KIDS_DUE=true)
    (u10_KIDS_DUE:K.lookup b10_KIDS_DUE=some ⟨.type "tuple",d10_KIDS_DUE,.seq i10_KIDS_DUE n10_KIDS_DUE,s10_KIDS_DUE⟩)
    (v10_KIDS_DUE:seqChk [.str "kind",.str "term",.str "term",.str "term"] i10_KIDS_DUE=true)
    (u11_KIDS_DUE:K.lookup b11_KIDS_DUE=some ⟨.type "tuple",d11_KIDS_DUE,.seq i11_KIDS_DUE n11_KIDS_DUE,s11_KIDS_DUE⟩)
    (v11_KIDS_DUE:seqChk [.str "kind",.str "term"] i11_KIDS_DUE=true)
    (u12_KIDS_DUE:K.lookup b12_KIDS_DUE=some ⟨.type "tuple",d12_KIDS_DUE,.seq i12_KIDS_DUE n12_KIDS_DUE,s12_KIDS_DUE⟩)
    (v12_KIDS_DUE:seqChk [.str "kind",.str "term",.str "term"] i12_KIDS_DUE=true)
    (u13_KIDS_DUE:K.lookup b13_KIDS_DUE=some ⟨.type "tuple",d13_KIDS_DUE,.seq i13_KIDS_DUE n13_KIDS_DUE,s13_KIDS_DUE⟩)
    (v13_KIDS_DUE:seqChk [.str "kind",.str "term"] i13_KIDS_DUE=true)
    (u14_KIDS_DUE:K.lookup b14_KIDS_DUE=some ⟨.type "tuple",d14_KIDS_DUE,.seq i14_KIDS_DUE n14_KIDS_DUE,s14_KIDS_DUE⟩)
    (v14_KIDS_DUE:seqChk [.str "kind",.str "term",.str "term"] i14_KIDS_DUE=true)
    (u15_KIDS_DUE:K.lookup b15_KIDS_DUE=some ⟨.type "tuple",d15_KIDS_DUE,.seq i15_KIDS_DUE n15_KIDS_DUE,s15_KIDS_DUE⟩)
    (v15_KIDS_DUE:seqChk [.str "term"] i15_KIDS_DUE=true)
    (u16_KIDS_DUE:K.lookup b16_KIDS_DUE=some ⟨.type "tuple",d16_KIDS_DUE,.seq i16_KIDS_DUE n16_KIDS_DUE,s16_KIDS_DUE⟩)
    (v16_KIDS_DUE:seqChk [.str "term"] i16_KIDS_DUE=true)
    (u17_KIDS_DUE:K.lookup b17_KIDS_DUE=some ⟨.type "tuple",d17_KIDS_DUE,.seq i17_KIDS_DUE n17_KIDS_DUE,s17_KIDS_DUE⟩)
    (v17_KIDS_DUE:seqChk [] i17_KIDS_DUE=true)
    (g_BINDER_OVER:PySem.W.nsIn K mainGlobals "BINDER_OVER" = some (some (.ref t_BINDER_OVER)))
    (lk_BINDER_OVER:K.lookup t_BINDER_OVER=some ⟨.type "dict",none,.dict es_BINDER_OVER ep_BINDER_OVER,#[]⟩)
    (sy_BINDER_OVER:(t_BINDER_OVER==sysModules)=false)
    (vs_BINDER_OVER:intRows es_BINDER_OVER.toList [("all",1),("some",1),("fun",1),("rec",0),("carry",0)]=true)
    (g_FIGURES:PySem.W.nsIn K mainGlobals "FIGURES" = some (some (.str "0123456789" tk_FIGURES)))
    (g_MOST_FIGURE:PySem.W.nsIn K mainGlobals "MOST_FIGURE" = some (some (.int 39 tk_MOST_FIGURE)))
    (g_KeeperError:PySem.W.nsIn K mainGlobals "KeeperError" = some (some (.ref t_KeeperError)))
    (g_Great:PySem.W.nsIn K mainGlobals "Great" = some (some (.ref t_Great)))
    (g_NoText:PySem.W.nsIn K mainGlobals "NoText" = some (some (.ref t_NoText)))
    (g_Form:PySem.W.nsIn K mainGlobals "Form" = some (some (.ref t_Form)))
    (pg_Form:PySem.W.plainGet K t_Form Str.empty=true)
    (hd_Form:PySem.W.hasDictIn K t_Form=true)
    (po_Form:PySem.W.plainOver K t_Form=true)
    (sa_Form:PySem.W.findIn K (.ref t_Form) "__setattr__" = some (some (.builtin "object.__setattr__")))
    (mk_Form:PySem.W.makesIn K t_Form=true)
    (kp_Form:PySem.W.keepIn K (.ref t_Form)=true)
    (na_Form_word:PySem.W.findIn K (.ref t_Form) "word" = some none)
    (na_Form_name:PySem.W.findIn K (.ref t_Form) "name" = some none)
    (na_Form_due:PySem.W.findIn K (.ref t_Form) "due" = some none)
    (na_Form_parts:PySem.W.findIn K (.ref t_Form) "parts" = some none)
    (a_Form_init:PySem.W.findIn K (.ref t_Form) "__init__" = some (some (.ref f_Form_init)))
    (l_Form_init:K.lookup f_Form_init=some ⟨oc_Form_init,od_Form_init,.func (PySem.W.fnOf "__init__" "Form.__init__" (defArgs s_Form_init) (defBody s_Form_init) (defScope s_Form_init) .none kV_Form_init dc_Form_init pm_Form_init an_Form_init cd_Form_init ct_Form_init),sl_Form_init⟩)
    (c_Form_init:PySem.W.codeIn K cd_Form_init "Form.__init__" = true)
    (k_Form_init:PySem.W.keepIn K (.ref f_Form_init)=true)
    (n_Form_init:PySem.W.isFn K (.ref f_Form_init)=true)
    (a_Form_binds_here:PySem.W.findIn K (.ref t_Form) "binds_here" = some (some (.ref f_Form_binds_here)))
    (l_Form_binds_here:K.lookup f_Form_binds_here=some ⟨oc_Form_binds_here,od_Form_binds_here,.func (PySem.W.fnOf "binds_here" "Form.binds_here" (defArgs s_Form_binds_here) (defBody s_Form_binds_here) (defScope s_Form_binds_here) .none kV_Form_binds_here dc_Form_binds_here pm_Form_binds_here an_Form_binds_here cd_Form_binds_here ct_Form_binds_here),sl_Form_binds_here⟩)
    (c_Form_binds_here:PySem.W.codeIn K cd_Form_binds_here "Form.binds_here" = true)
    (k_Form_binds_here:PySem.W.keepIn K (.ref f_Form_binds_here)=true)
    (n_Form_binds_here:PySem.W.isFn K (.ref f_Form_binds_here)=true)
    (a_Form_is_full:PySem.W.findIn K (.ref t_Form) "is_full" = some (some (.ref f_Form_is_full)))
    (l_Form_is_full:K.lookup f_Form_is_full=some ⟨oc_Form_is_full,od_Form_is_full,.func (PySem.W.fnOf "is_full" "Form.is_full" (defArgs s_Form_is_full) (defBody s_Form_is_full) (defScope s_Form_is_full) .none kV_Form_is_full dc_Form_is_full pm_Form_is_full an_Form_is_full cd_Form_is_full ct_Form_is_full),sl_Form_is_full⟩)
    (c_Form_is_full:PySem.W.codeIn K cd_Form_is_full "Form.is_full" = true)
    (k_Form_is_full:PySem.W.keepIn K (.ref f_Form_is_full)=true)
    (n_Form_is_full:PySem.W.isFn K (.ref f_Form_is_full)=true)
    (a_Form_take:PySem.W.findIn K (.ref t_Form) "take" = some (some (.ref f_Form_take)))
    (l_Form_take:K.lookup f_Form_take=some ⟨oc_Form_take,od_Form_take,.func (PySem.W.fnOf "take" "Form.take" (defArgs s_Form_take) (defBody s_Form_take) (defScope s_Form_take) .none kV_Form_take dc_Form_take pm_Form_take an_Form_take cd_Form_take ct_Form_take),sl_Form_take⟩)
    (c_Form_take:PySem.W.codeIn K cd_Form_take "Form.take" = true)
    (k_Form_take:PySem.W.keepIn K (.ref f_Form_take)=true)
    (n_Form_take:PySem.W.isFn K (.ref f_Form_take)=true)
    (a_Form_closed:PySem.W.findIn K (.ref t_Form) "closed" = some (some (.ref f_Form_closed)))
    (l_Form_closed:K.lookup f_Form_closed=some ⟨oc_Form_closed,od_Form_closed,.func (PySem.W.fnOf "closed" "Form.closed" (defArgs s_Form_closed) (defBody s_Form_closed) (defScope s_Form_closed) .none kV_Form_closed dc_Form_closed pm_Form_closed an_Form_closed cd_Form_closed ct_Form_closed),sl_Form_closed⟩)
    (c_Form_closed:PySem.W.codeIn K cd_Form_closed "Form.closed" = true)
    (k_Form_closed:PySem.W.keepIn K (.ref f_Form_closed)=true)
    (n_Form_closed:PySem.W.isFn K (.ref f_Form_closed)=true)
    (x_nt:PySem.W.excIn K t_NoText [.type "ValueError",.type "Exception",.type "BaseException",.type "object"] "ValueError.__new__" = true)
    (x_ke:PySem.W.excIn K t_KeeperError [.type "ValueError",.type "Exception",.type "BaseException",.type "object"] "ValueError.__new__" = true)
    (x_gr:PySem.W.excIn K t_Great [.type "ValueError",.type "Exception",.type "BaseException",.type "object"] "ValueError.__new__" = true)
    (x_c1:PySem.W.findIn K (.ref t_NoText) "__getattribute__" = some (some (.builtin "BaseException.__getattribute__")))
    (x_c2:PySem.W.findIn K (.ref t_NoText) "__class__" = some (some (.builtin "object.__class__")))
    (x_c3:PySem.W.findIn K (.ref t_NoText) "__getattr__" = some none)
    (x_c4:PySem.W.mroIn K t_NoText (.type "object")=some true)
    (x_c5:PySem.W.mroIn K t_NoText (.type "BaseException")=some true)
    (x_c6:(PySem.W.clsIn K t_NoText).isSome=true)
    (x_cg1:PySem.W.findIn K (.ref t_Great) "__getattribute__" = some (some (.builtin "BaseException.__getattribute__")))
    (x_cg2:PySem.W.findIn K (.ref t_Great) "__class__" = some (some (.builtin "object.__class__")))
    (x_cg3:PySem.W.findIn K (.ref t_Great) "__getattr__" = some none)
    (x_cg4:PySem.W.mroIn K t_Great (.type "object")=some true)
    (x_cg5:PySem.W.mroIn K t_Great (.type "BaseException")=some true)
    (x_cg6:(PySem.W.clsIn K t_Great).isSome=true)
    (x_s2:PySem.W.subIn K (.ref t_NoText) (.ref t_KeeperError)=some true)
    (x_s3:PySem.W.subIn K (.ref t_Great) (.ref t_KeeperError)=some true)
    (x_k1:PySem.W.kitOne K (.ref t_NoText) (.ref t_Great)=some false)
    (x_k2:PySem.W.kitOne K (.ref t_NoText) (.ref t_NoText)=some true)
    (x_k3:PySem.W.kitOne K (.ref t_Great) (.ref t_Great)=some true)
    (x_k4:PySem.W.kitOne K (.ref t_Great) (.ref t_NoText)=some false):∃ t,Txt K mg t :=
  ⟨⟨(),t_KIND_WORDS,t_KIDS_DUE,t_BINDER_OVER,t_KeeperError,t_Great,t_NoText,t_Form⟩,⟨⟨PySem.W.mg_none_of X G z_all,PySem.W.mg_none_of X G z_int,PySem.W.mg_none_of X G z_isinstance,PySem.W.mg_none_of X G z_len,PySem.W.mg_none_of X G z_list,PySem.W.mg_none_of X G z_max,PySem.W.mg_none_of X G z_range,PySem.W.mg_none_of X G z_reversed,PySem.W.mg_none_of X G z_str,PySem.W.mg_none_of X G z_tuple,⟨_,PySem.W.mg_of X G g_MOST_KNOTS⟩,⟨_,PySem.W.mg_of X G g_MOST_DEEP⟩,⟨_,PySem.W.mg_of X G g_MOST_VARIABLE⟩,⟨_,PySem.W.mg_of X G g_MOST_LETTERS⟩,⟨_,PySem.W.mg_of X G g_LETTERS⟩,PySem.W.mg_of X G g_KIND_WORDS,PySem.W.mg_of X G g_KIDS_DUE,PySem.W.mg_of X G g_BINDER_OVER,⟨_,PySem.W.mg_of X G g_FIGURES⟩,⟨_,PySem.W.mg_of X G g_MOST_FIGURE⟩,PySem.W.mg_of X G g_KeeperError,PySem.W.mg_of X G g_Great,PySem.W.mg_of X G g_NoText,PySem.W.mg_of X G g_Form⟩,a0.df X G fun _ _ _ _ _ _=>by1 (fun _=>rfl),a1.df X G fun _ _ _ _ _ _=>by1 (fun _=>rfl),a2.df X G fun _ _ _ _ _ _=>by1 (fun _=>rfl),a3.df X G fun _ _ _ _ _ _=>by1 (fun _=>rfl),a4.df X G fun _ _ _ _ _ _=>by1 (fun _=>rfl),a5.df X G fun _ _ _ _ _ _=>by1 (fun _=>rfl),a6.df X G fun _ _ _ _ _ _=>by1 (fun _=>rfl),a7.df X G fun _ _ _ _ _ _=>by3 (fun _ _ _=>rfl),a8.df X G fun _ _ _ _ _ _=>by1 (fun _=>rfl),a9.df X G fun _ _ _ _ _ _=>by1 (fun _=>rfl),a10.df X G fun _ _ _ _ _ _=>by3 (fun _ _ _=>rfl),a11.df X G fun _ _ _ _ _ _=>by3 (fun _ _ _=>rfl),a12.df X G fun _ _ _ _ _ _=>by2 (fun _ _=>rfl),a13.df X G fun _ _ _ _ _ _=>by2 (fun _ _=>rfl),a14.df X G fun _ _ _ _ _ _=>by2 (fun _ _=>rfl),a15.df X G fun _ _ _ _ _ _=>by5 (fun _ _ _ _ _=>rfl),a16.df X G fun _ _ _ _ _ _=>by5 (fun _ _ _ _ _=>rfl),a17.df X G fun _ _ _ _ _ _=>by2 (fun _ _=>rfl),a18.df X G fun _ _ _ _ _ _=>by1 (fun _=>rfl),a19.df X G fun _ _ _ _ _ _=>by3 (fun _ _ _=>rfl),a20.df X G fun _ _ _ _ _ _=>by1 (fun _=>rfl),a21.df X G fun _ _ _ _ _ _=>by1 (fun _=>rfl),a22.df X G fun _ _ _ _ _ _=>by2 (fun _ _=>rfl),a23.df X G fun _ _ _ _ _ _=>by3 (fun _ _ _=>rfl),a24.df X G fun _ _ _ _ _ _=>by1 (fun _=>rfl),sqk_mk lk_KIND_WORDS vs_KIND_WORDS,⟨_,kd_mk sy_KIDS_DUE lk_KIDS_DUE ks_KIDS_DUE rf_KIDS_DUE rfl (sq_cons (sqk_mk u0_KIDS_DUE v0_KIDS_DUE) (sq_cons (sqk_mk u1_KIDS_DUE v1_KIDS_DUE) (sq_cons (sqk_mk u2_KIDS_DUE v2_KIDS_DUE) (sq_cons (sqk_mk u3_KIDS_DUE v3_KIDS_DUE) (sq_cons (sqk_mk u4_KIDS_DUE v4_KIDS_DUE) (sq_cons (sqk_mk u5_KIDS_DUE v5_KIDS_DUE) (sq_cons (sqk_mk u6_KIDS_DUE v6_KIDS_DUE) (sq_cons (sqk_mk u7_KIDS_DUE v7_KIDS_DUE) (sq_cons (sqk_mk u8_KIDS_DUE v8_KIDS_DUE) (sq_cons (sqk_mk u9_KIDS_DUE v9_KIDS_DUE) (sq_cons (sqk_mk u10_KIDS_DUE v10_KIDS_DUE) (sq_cons (sqk_mk u11_KIDS_DUE v11_KIDS_DUE) (sq_cons (sqk_mk u12_KIDS_DUE v12_KIDS_DUE) (sq_cons (sqk_mk u13_KIDS_DUE v13_KIDS_DUE) (sq_cons (sqk_mk u14_KIDS_DUE v14_KIDS_DUE) (sq_cons (sqk_mk u15_KIDS_DUE v15_KIDS_DUE) (sq_cons (sqk_mk u16_KIDS_DUE v16_KIDS_DUE) (sq_cons (sqk_mk u17_KIDS_DUE v17_KIDS_DUE) sq_nil))))))))))))))))))⟩,tabi_mk sy_BINDER_OVER lk_BINDER_OVER vs_BINDER_OVER,⟨⟨pg_Form,hd_Form,po_Form,sa_Form⟩,na_Form_word,na_Form_name,na_Form_due,na_Form_parts⟩,⟨mk_Form,kp_Form⟩,⟨f_Form_init,_,fun_mk (st:=s_Form_init) l_Form_init c_Form_init k_Form_init,⟨a_Form_init,n_Form_init,k_Form_init⟩,(fun_mk (st:=s_Form_init) l_Form_init c_Form_init k_Form_init).binds fun _ _ _ _ _ _=>by4 (fun _ _ _ _=>rfl)⟩,⟨f_Form_binds_here,_,fun_mk (st:=s_Form_binds_here) l_Form_binds_here c_Form_binds_here k_Form_binds_here,⟨a_Form_binds_here,n_Form_binds_here,k_Form_binds_here⟩,(fun_mk (st:=s_Form_binds_here) l_Form_binds_here c_Form_binds_here k_Form_binds_here).binds fun _ _ _ _ _ _=>by1 (fun _=>rfl)⟩,⟨f_Form_is_full,_,fun_mk (st:=s_Form_is_full) l_Form_is_full c_Form_is_full k_Form_is_full,⟨a_Form_is_full,n_Form_is_full,k_Form_is_full⟩,(fun_mk (st:=s_Form_is_full) l_Form_is_full c_Form_is_full k_Form_is_full).binds fun _ _ _ _ _ _=>by1 (fun _=>rfl)⟩,⟨f_Form_take,_,fun_mk (st:=s_Form_take) l_Form_take c_Form_take k_Form_take,⟨a_Form_take,n_Form_take,k_Form_take⟩,(fun_mk (st:=s_Form_take) l_Form_take c_Form_take k_Form_take).binds fun _ _ _ _ _ _=>by2 (fun _ _=>rfl)⟩,⟨f_Form_closed,_,fun_mk (st:=s_Form_closed) l_Form_closed c_Form_closed k_Form_closed,⟨a_Form_closed,n_Form_closed,k_Form_closed⟩,(fun_mk (st:=s_Form_closed) l_Form_closed c_Form_closed k_Form_closed).binds fun _ _ _ _ _ _=>by1 (fun _=>rfl)⟩,⟨⟨_,_,_,PySem.F.excBase_ValueError,x_nt⟩,⟨_,_,_,PySem.F.excBase_ValueError,x_ke⟩,⟨_,_,_,PySem.F.excBase_ValueError,x_gr⟩,⟨x_c1,x_c2,x_c3,x_c4,x_c5,x_c6⟩,⟨x_cg1,x_cg2,x_cg3,x_cg4,x_cg5,x_cg6⟩,x_s2,x_s3,x_k1,x_k2,x_k3,x_k4⟩⟩⟩
theorem init_n {P:Program} {w:World} {K:PySem.W.Frag} {mg:Str→Option Value} {C:Addr} {x:Str} {k:Nat} {ps:List Str} {sp:Sp} (F:CalM P w K mg CX0 C "__init__" k ps sp) (N:PySem.W.makesIn K C=true∧PySem.W.keepIn K (.ref C)=true) (m:mg x=some (.ref C)):CalN P w K mg x C k ps sp:=by
  obtain ⟨f,fd,F,M,b⟩:=F
  exact ⟨f,fd,F,⟨N.1,M.at_,M.fn,N.2⟩,m,b⟩
theorem fin {l:PySem.W.OpenLaw} {w:World} {K:PySem.W.Frag} {mg:Str→Option Value} {t:Adr} {fa:Addr} (T:Txt K mg t) (hfa:mg "law" = some (.ref fa)) :
    ∃ fd:FuncData,(∀ (s:Shared) (v:Value),BindsTo s fd ⟨[v],[]⟩ [("_law_script",v)])∧∀ base:Heap,K.In base→base.Ns mainGlobals mg→FnOk l.prog w K mg base CX0 70 fa fd ["_law_script"] (spLaw K):=by
  obtain ⟨f,fd,F,m,b⟩:=T.D_law
  have e:=hfa.symm.trans m
  cases e
  refine ⟨fd,?_,fun base _ _=>?_⟩
  · obtain ⟨oc,od,kV,doc,pm,an,cdv,ct,osl,rfl,lk,hcd⟩:=F.ex
    exact fun s v=>.of_eq rfl
  obtain ⟨as,TK⟩:=T.T_KIDS_DUE
  have c1:=c_cell (P:=l.prog) (w:=w) T.D_law_cell_at T.M
  have d1:=c_law_chain (P:=l.prog) (w:=w) T.D_law_chain T.M
  have d3:=c_law_tre (P:=l.prog) (w:=w) T.D_law_tree T.M
  have d4:=c_law_far (P:=l.prog) (w:=w) T.D_law_far T.M
  have d5:=c_law_nexts (P:=l.prog) (w:=w) T.D_law_nexts T.M
  have d6:=c_law_near T.D_law_near T.M d3 d5
  have d7:=c_law_figures (P:=l.prog) (w:=w) T.D_law_figures T.M
  have d8:=c_law_kind (P:=l.prog) (w:=w) T.D_law_kind T.M
  have d9:=c_law_over T.D_law_over_kind T.M d8
  have d10:=c_law_made T.D_law_made T.M c1 d1 d3 d4 d7 d9 d6
  have w1:=c_words_of (P:=l.prog) (w:=w) T.D_words_of T.M
  have p2:=c_kids_of (P:=l.prog) (w:=w) T.D_kids_of T.M
  have y3:=c_top_variable T.D_top_variable T.M p2 60
  have y4:=c_is_vast (P:=l.prog) (w:=w) T.D_is_vast T.M
  have y5:=c_bounded T.D_bounded T.M T.X.gr y4 y3
  have y6:=c_is_name (P:=l.prog) (w:=w) T.D_is_name T.M TK
  have f1:=init_n (c_Form_init (P:=l.prog) (w:=w) T.D_Form_init T.M T.K_Form) T.N_Form T.M.g_Form
  have f2:=c_Form_is_full (P:=l.prog) (w:=w) T.D_Form_is_full T.M T.K_Form
  have f3:=c_Form_take T.D_Form_take T.M T.K_Form T.X.nt T.T_KIND_WORDS f2
  have f4:=c_Form_closed T.D_Form_closed T.M T.K_Form T.X.nt f2
  have f5:=c_Form_binds_here (P:=l.prog) (w:=w) T.D_Form_binds_here T.M T.K_Form T.T_BINDER_OVER
  have r1:=c_count_of (P:=l.prog) (w:=w) T.D_count_of T.M
  have r2:=c_is_figure (P:=l.prog) (w:=w) T.D_is_figure T.M
  have r3:=c_thing_named T.D_thing_named T.M T.K_Form f5
  have r4:=c_form_of T.D_form_of T.M T.X.nt TK T.T_BINDER_OVER y6 f1
  have r5:=leafG_ok T.D_leaf_of T.M T.X.nt r2 r1 y6 r3
  have r6:=readG_ok T.D_read_thing T.M T.K_Form T.X.nt w1 f1 f2 f3 f4 r4 r5 y5
  have r8:=c_read_term T.D_read_term T.M r6
  have r9:=c_law_told T.D_law_told T.M T.X r8
  exact c_law F T.M c1 r9 d10
theorem walk {l:PySem.W.OpenLaw} {q:Program} {loose:List Str} {XP:(Str→Option Value)→Heap→Prop} {YP:World→Heap→Prop} {d:DefRec} {K:Params→PySem.W.Frag} (hn:l.most=some 63) (hdf:d.params.defaults=[])
    (hY:∀ (w:World) (h:Heap),YP w h→(K w.params).In h)
    (F:∀ (w:World) (mg:Str→Option Value) (fa:Addr) (h:Heap),(K w.params).In h→h.Ns mainGlobals mg→mg d.name=some (.ref fa) →
      ∃ fd:FuncData,(∀ (s:Shared) (u:Value),BindsTo s fd ⟨[u],[]⟩ [("_law_script",u)])∧∀ base:Heap,(K w.params).In base→base.Ns mainGlobals mg→FnOk l.prog w (K w.params) mg base CX0 70 fa fd ["_law_script"] (spLaw (K w.params))) :
    PySem.W.WalkO q loose XP YP l.row.toRowW d [] (fun f vs=>PySem.call f vs) :=
  L2.walk_of (n:=63) (k:=70) (x := "_law_script") (CX:=fun _=>CX0) (sp:=fun w=>spLaw (K w.params)) hn (by decide) hdf ⟨by decide,by decide,fun _=>rfl⟩ hY F (fun _ _ a ns hl _ hS=>⟨a,ns,rfl,hS,fun _=>rfl⟩) fun _ _ _ _ _ z=>z
end K55
end
section
namespace HD
open PySem PySem.W PySem.Calls PyProof.Rows
def halves {α:Type}:List α→List α×List α
  | []=>([],[])
  | x::r=>(x::(halves r).2,(halves r).1)
def mkTF:Nat→List Obj→BT
  | 0,_=>.nil
  | _+1,[]=>.nil
  | n+1,x::r=>.node x (mkTF n (halves r).1) (mkTF n (halves r).2)
def mkT (l:List Obj):BT:=mkTF 14 l
def i (n:Nat):Value:=.int (.ofNat n) 0
def view (p:Program) (l:List Stmt):Program:={ p with main:={ p.main with body:=l } }
abbrev Two (β:Type):Type:=World→(OsState→β)×(OsState→β)
def Ok {β:Type} (q:Two β):Prop:=∀ w,(q w).1=(q w).2
theorem by1 {β:Type} {q q':Two β} (e:q=q') (h:∀ w,(q' w).1=(q' w).2):Ok q:=by
  subst e
  exact h
theorem by2 {β:Type} {q qf qt:Two β} (r:String) (ef:(fun w=>q (w.withFollow r false))=qf) (et:(fun w=>q (w.withFollow r true))=qt) (hf:∀ w,(qf w).1=(qf w).2) (ht:∀ w,(qt w).1=(qt w).2):Ok q:=by
  subst ef et
  exact fun w=>byRow2 r (P:=fun w=>(q w).1=(q w).2) hf ht w
section
variable (p:Program) (m:Nat) (ann:Option Value)
def pre (n:Nat) (S S':World→OsState→Shared) (t t':Thread):Two (Option (Shared×Thread)):=fun w=>(fun os=>topGo treeTable p w m ann n (S w os) t,fun os=>some (S' w os,t'))
def blk (n:Nat) (S:World→OsState→Shared) (S':World→OsState→SharedT) (b:List Stmt) (env:Env) (c:Code) (p1 p2:Pos) (B:List Frame):Two (Option (Flow×Shared×Code×Pos)) :=
  fun w=>(fun os=>segRun treeTable p w m ann 1 n (S w os) (blockOf b env c p1 B),fun os=>some (Flow.next,(S' w os).abs,c,p2))
def seg (n:Nat) (S S':World→OsState→SharedT) (l:List Stmt) (env:Env) (c:Code) (p1 p2:Pos) (B:List Frame):Two (Option (Flow×SharedT×Code×Pos)) :=
  fun w=>(fun os=>segRunT treeTable p w m ann 1 n (S w os) (piecesOf l env c p1 B),fun os=>some (Flow.next,S' w os,c,p2))
def fin (n:Nat) (S:World→OsState→SharedT) (S':World→OsState→Shared) (t:Thread):Two (Option Shared):=fun w=>(fun os=>topRun treeTable p w m ann n (S w os).abs t,fun os=>some (S' w os))
variable {p:Program} {m:Nat} {ann:Option Value}
def Goes (p:Program) (m:Nat) (ann:Option Value) (R:World→OsState→Shared) (n:Nat) (S:World→OsState→Shared) (t:Thread):Prop:=∀ w os,topRun treeTable p w m ann n (S w os) t=some (R w os)
def absS (S:World→OsState→SharedT):World→OsState→Shared:=fun w os=>(S w os).abs
theorem g_fin {n:Nat} {S:World→OsState→SharedT} {R:World→OsState→Shared} {env:Env} {c:Code} {pos q:Pos} (h:Ok (fin p m ann n S R ⟨doneF .next,c,pos,[topFrame q]⟩)) :
    Goes p m ann R n (absS S) (restOf [] env c pos [topFrame q]):=fun w os=>piece_nil (congrFun (h w) os)
theorem g_seg {n N:Nat} {S S':World→OsState→SharedT} {R:World→OsState→Shared} {l rest:List Stmt} {env:Env} {c:Code} {p1 p2 q:Pos} (h:Ok (seg p m ann n S S' l env c p1 p2 [topFrame q]))
    (k:Goes p m ann R N (absS S') (restOf rest env c p2 [topFrame q])):Goes p m ann R (n+N) (absS S) (restOf (l++rest) env c p1 [topFrame q]):=fun w os=>piece_app (segRun_of (congrFun (h w) os)) (k w os)
theorem g_blk {n N:Nat} {S:World→OsState→Shared} {S':World→OsState→SharedT} {R:World→OsState→Shared} {b b':List Stmt} {env:Env} {p1 p2 q:Pos} (e:b=b') (h:Ok (blk p m ann n S S' b env (.body b env) p1 p2 [topFrame q]))
    (k:Goes p m ann R N (absS S') (restOf b' env (.body b env) p2 [topFrame q])):Goes p m ann R (n+N) S ⟨denote treeTable (.body b env),.body b env,p1,[topFrame q]⟩:=fun w os=>by
  subst e
  exact piece_block (congrFun (h w) os) (k w os)
theorem g_pre {n N:Nat} {S S' R:World→OsState→Shared} {t t':Thread} (h:Ok (pre p m ann n S S' t t')) (k:Goes p m ann R N S' t'):Goes p m ann R (n+N) S t:=fun w os=>go_top (congrFun (h w) os) (k w os)
end
def sz (m:Nat) (ann:Option Value):Two (Bool×Nat×Option Value):=fun w=>(fun _=>((boot_heap w.params).isNs mainGlobals && (Array.mk []:Array GenState).size==0,(boot_heap w.params).objs.size,(boot_heap w.params).nsMap mainGlobals "__annotations__"),fun _=>(true,m,ann))
def mkS (H:Params→Heap) (d:Drawn) (k:Nat):World→OsState→Shared:=fun w os=>⟨H w.params,Array.mk [],d,k,os⟩
def la (p:Program) (H₁:Params→Heap) (d:Drawn) (k:Nat):Two Bool:=fun w=>(fun os=>(staticsOk (importedModules p.main.body) (boot_heap w.params) (H₁ w.params) && namesBound p (H₁ w.params) && gensDone ⟨H₁ w.params,Array.mk [],d,k,os⟩ && laidKept (boot_heap w.params) (H₁ w.params)),fun _=>true)
def lb (p q:Program) (loose:List Str) (Xt:Shared→Bool) (H₁:Params→Heap) (d:Drawn) (k:Nat):=fun (w:World)=>((fun (os:OsState)=>openSeen q loose (importedModules p.main.body) Xt true ⟨H₁ w.params,Array.mk [],d,k,os⟩),(fun (_:OsState)=>openGood q loose))
def lc (H:Hook) (H₁:Params→Heap) (d:Drawn) (k:Nat):Two H.α:=fun w=>(fun os=>H.obs ⟨H₁ w.params,Array.mk [],d,k,os⟩,fun _=>H.val w)
theorem left {p q:Program} {loose:List Str} {Xt:Shared→Bool} {H:Hook} {N m M:Nat} {ann:Option Value} {H₁:Params→Heap} {d:Drawn} {k:Nat} (e:opening p=plainProg p.main.scope.names) (hN:Nat.ble 600 N=true) (f:∀ s,fenceModules? p s=some s)
    (size:Ok (sz m ann)) (run:Goes p m ann (mkS H₁ d k) M (mkS boot_heap boot_drawn boot_toks) (topStub p)) (le:Nat.ble M N=true) (ha:Ok (la p H₁ d k)) (hb:Ok (lb p q loose Xt H₁ d k)) (hc:Ok (lc H H₁ d k)):LeftO p q loose Xt H.obs H.val N :=
  LeftO.of_pieces (H₀:=boot_heap) (H₁:=H₁) (boot_open e hN f) (fun w=>congrFun (size w) default) run le
    fun w=>funext fun os=>looks_pair (congrFun (ha w) os) (looks_pair (congrFun (hb w) os) (congrFun (hc w) os))
end HD
end
section
namespace K55
open PySem PySem.W PySem.Calls PyProof.Rows
abbrev pw:Program:=PySem.Challenge.pw_keeper_k55_texts_too_great
def ht (i:Nat):Stmt:=pw.main.body.getD i (.Pass ⟨0,0,0,0⟩)
def x0:Str:=.ofString "__name__"
def x1:Str:=.ofString "builtins"
def x2:Str:=.ofString "__doc__"
def x3:Str:=.ofString "__package__"
def x4:Str:=.ofString "__loader__"
def x5:Str:=.ofString "__spec__"
def x6:Str:=.ofString "__build_class__"
def x7:Str:=.ofString "__import__"
def x8:Str:=.ofString "abs"
def x9:Str:=.ofString "all"
def x38:Str:=.ofString "next"
def x160:Str:=.ofString "__main__"
def x161:Str:=.ofString "__annotations__"
def x162:Str:=.ofString "__builtins__"
def x163:Str:=.ofString "__file__"
def x164:Str:=.ofString "/claim/cut.py"
def x165:Str:=.ofString "__cached__"
def x166:Str:=.ofString "<module>"
def x167:Str:=.ofString "_wall"
def x168:Str:=.ofString "k"
def x169:Str:=.ofString "keeper.errors"
def x170:Str:=.ofString "KeeperError"
def x171:Str:=.ofString "__module__"
def x172:Str:=.ofString "__qualname__"
def x173:Str:=.ofString "__firstlineno__"
def x174:Str:=.ofString "small_name"
def x175:Str:=.ofString "__static_attributes__"
def x176:Str:=.ofString "self"
def x177:Str:=.ofString "KeeperError.small_name"
def x178:Str:=.ofString "__weakref__"
def x179:Str:=.ofString "Great"
def x180:Str:=.ofString "Great.small_name"
def x181:Str:=.ofString "NoText"
def x182:Str:=.ofString "NoText.small_name"
def x183:Str:=.ofString "keeper.things"
def x184:Str:=.ofString "MOST_KNOTS"
def x185:Str:=.ofString "MOST_DEEP"
def x186:Str:=.ofString "MOST_VARIABLE"
def x187:Str:=.ofString "MOST_LETTERS"
def x188:Str:=.ofString "LETTERS"
def x189:Str:=.ofString "abcdefghijklmnopqrstuvwxyz"
def x190:Str:=.ofString "KIND_WORDS"
def x191:Str:=.ofString "nat"
def x192:Str:=.ofString "none"
def x193:Str:=.ofString "some"
def x194:Str:=.ofString "same"
def x195:Str:=.ofString "KIDS_DUE"
def x196:Str:=.ofString "var"
def x197:Str:=.ofString "fun"
def x198:Str:=.ofString "app"
def x199:Str:=.ofString "zero"
def x200:Str:=.ofString "rec"
def x201:Str:=.ofString "like"
def x202:Str:=.ofString "carry"
def x203:Str:=.ofString "never"
def x204:Str:=.ofString "pair"
def x205:Str:=.ofString "first"
def x206:Str:=.ofString "second"
def x207:Str:=.ofString "name"
def x208:Str:=.ofString "kind"
def x209:Str:=.ofString "term"
def x210:Str:=.ofString "BINDER_OVER"
def x211:Str:=.ofString "is_name"
def x212:Str:=.ofString "is_vast"
def x213:Str:=.ofString "kids_of"
def x214:Str:=.ofString "thing"
def x215:Str:=.ofString "top_variable"
def x216:Str:=.ofString "bounded"
def x217:Str:=.ofString "keeper.words"
def x218:Str:=.ofString "words_of"
def x219:Str:=.ofString "keeper.reading"
def x220:Str:=.ofString "FIGURES"
def x221:Str:=.ofString "0123456789"
def x222:Str:=.ofString "MOST_FIGURE"
def x223:Str:=.ofString "Form"
def x224:Str:=.ofString "__init__"
def x225:Str:=.ofString "binds_here"
def x226:Str:=.ofString "is_full"
def x227:Str:=.ofString "take"
def x228:Str:=.ofString "closed"
def x229:Str:=.ofString "word"
def x230:Str:=.ofString "due"
def x231:Str:=.ofString "Form.__init__"
def x232:Str:=.ofString "Form.binds_here"
def x233:Str:=.ofString "Form.is_full"
def x234:Str:=.ofString "Form.take"
def x235:Str:=.ofString "Form.closed"
def x236:Str:=.ofString "parts"
def x237:Str:=.ofString "__dict__"
def x238:Str:=.ofString "form_of"
def x239:Str:=.ofString "head"
def x240:Str:=.ofString "thing_named"
def x241:Str:=.ofString "forms"
def x242:Str:=.ofString "names"
def x243:Str:=.ofString "binders"
def x244:Str:=.ofString "form"
def x245:Str:=.ofString "is_figure"
def x246:Str:=.ofString "count_of"
def x247:Str:=.ofString "number"
def x248:Str:=.ofString "count"
def x249:Str:=.ofString "leaf_of"
def x250:Str:=.ofString "read_thing"
def x251:Str:=.ofString "text"
def x252:Str:=.ofString "words"
def x253:Str:=.ofString "whole"
def x254:Str:=.ofString "place"
def x255:Str:=.ofString "read_term"
def x256:Str:=.ofString "law_keeper_k55_texts_too_great"
def x257:Str:=.ofString "_law_cell_at"
def x258:Str:=.ofString "_law_script"
def x259:Str:=.ofString "_law_k"
def x260:Str:=.ofString "_law_told"
def x261:Str:=.ofString "_law_line"
def x262:Str:=.ofString "_law_names"
def x263:Str:=.ofString "e"
def x264:Str:=.ofString "_law_chain"
def x265:Str:=.ofString "_law_many"
def x266:Str:=.ofString "_law_way"
def x267:Str:=.ofString "_law_thing"
def x268:Str:=.ofString "_law_levels"
def x269:Str:=.ofString "_law_tree"
def x270:Str:=.ofString "_law_knots"
def x271:Str:=.ofString "_law_far"
def x272:Str:=.ofString "_law_number"
def x273:Str:=.ofString "_law_over"
def x274:Str:=.ofString "_law_some"
def x275:Str:=.ofString "_law_figures"
def x276:Str:=.ofString "_law_made"
def x277:Str:=.ofString "_law_cell"
def x278:Str:=.ofString "_law_parts"
def x279:Str:=.ofString "_law_nexts"
def x280:Str:=.ofString "_law_near"
def x281:Str:=.ofString "_law_tree_here"
def x282:Str:=.ofString "_law_kind"
def x283:Str:=.ofString "_law_over_kind"
def x284:Str:=.ofString "_law_form"
def x285:Str:=.ofString "_law_kind_here"
def x286:Str:=.ofString "_law_var"
def x287:Str:=.ofString "law"
def hE:Env:={ scope:=pw.main.scope,locals:=mainNs,globals:=mainNs,cells:=[],code:=(.ref 13),frame:=some (nat_lit 14) }
def hC:Code:=.body (behindTheImports pw) hE
def hB:List Frame:=[topFrame ⟨0,0,0,0⟩]
abbrev S0:World→OsState→Shared:=HD.mkS boot_heap boot_drawn boot_toks
def o11_a (P:Params):Obj:=⟨(.type "tuple"),none,(.seq #[] 0),#[]⟩
def o12_a (P:Params):Obj:=⟨.none,none,(.fields #[]),#[]⟩
def o13_a (P:Params):Obj:=⟨(.type "code"),none,(.fields #[(.str x166 182),(.str x166 183),(.str x164 184),(HD.i 1),(HD.i 0),(HD.i 0),(HD.i 0),(HD.i 0),(.ref 11),(.bool false),(HD.i 181),(.ref 12),.none,.none,.none,.none,(HD.i 185),(HD.i 1),(.str x164 186)]),#[]⟩
def o14_a (P:Params):Obj:=⟨(.type "frame"),none,.plain,#[(some (.ref 13)),(some (.ref 3)),(some (.ref 3)),none,(some (.str x160 164)),none,(some (.ref 0))]⟩
def Ha_0 (P:Params) (r:List (Obj)):List (Obj):=PySem.W.boot_o_0 P::PySem.W.boot_o_1 P::PySem.W.boot_o_2 P::PySem.W.boot_o_3 P::PySem.W.boot_o_4 P::PySem.W.boot_o_5 P::PySem.W.boot_o_6 P::PySem.W.boot_o_7 P::PySem.W.boot_o_8 P::PySem.W.boot_o_9 P::PySem.W.boot_o_10 P::o11_a P::r
def Ha_1 (P:Params) (r:List (Obj)):List (Obj):=o12_a P::o13_a P::o14_a P::r
def Ha (P:Params):Heap:=⟨Array.mk (Ha_0 P (Ha_1 P [])),⟨[],[],[],0,[],[],false,#[],[],0,false,false,false,(.ofNat 0),[(.ofNat 2000),(.ofNat 10),(.ofNat 10)],false,0,true,[],[],0,false⟩⟩
def da:Drawn:=⟨0,0,0,0⟩
def ka:Nat:=nat_lit 187
abbrev Sa:World→OsState→Shared:=HD.mkS Ha da ka
def qa (w:World):(OsState→Option (Shared×Thread))×(OsState→Option (Shared×Thread)):=(fun os=>topGo treeTable pw w (nat_lit 11) (some (.ref 6)) (nat_lit 12) (S0 w os) (topStub pw),fun os=>some (Sa w os,Thread.mk (denote treeTable hC) hC ⟨0,0,0,0⟩ hB))
theorem qa_eq:HD.pre pw (nat_lit 11) (some (.ref 6)) (nat_lit 12) S0 Sa (topStub pw) (Thread.mk (denote treeTable hC) hC ⟨0,0,0,0⟩ hB)=qa:=by kernel_rfl
name_quick YK55a for qa by qa_eq
theorem ia (w:World):(Fast.YK55a w).1=(Fast.YK55a w).2:=by kernel_rfl
theorem ha:HD.Ok (HD.pre pw (nat_lit 11) (some (.ref 6)) (nat_lit 12) S0 Sa (topStub pw) (Thread.mk (denote treeTable hC) hC ⟨0,0,0,0⟩ hB)):=HD.by1 Fast.YK55a_eq ia
def Tb_0 (P:Params) (r:List (Obj)):List (Obj):=PySem.W.boot_o_0 P::PySem.W.boot_o_1 P::PySem.W.boot_o_2 P::PySem.W.boot_o_3 P::PySem.W.boot_o_4 P::PySem.W.boot_o_5 P::PySem.W.boot_o_6 P::PySem.W.boot_o_7 P::PySem.W.boot_o_8 P::PySem.W.boot_o_9 P::PySem.W.boot_o_10 P::o11_a P::r
def Tb_1 (P:Params) (r:List (Obj)):List (Obj):=o12_a P::o13_a P::o14_a P::r
def Tb (P:Params):BT:=HD.mkT (Tb_0 P (Tb_1 P []))
def lfb:Life:=⟨[],[],[],0,[],[],false,#[],[],0,false,false,false,(.ofNat 0),[(.ofNat 2000),(.ofNat 10),(.ofNat 10)],false,0,true,[],[],0,false⟩
abbrev Sb (w:World) (os:OsState):SharedT:=⟨Tb w.params,nat_lit 15,lfb,Array.mk [],⟨0,0,0,0⟩,nat_lit 187,os⟩
def qb (w:World):(OsState→Option (Flow×Shared×Code×Pos))×(OsState→Option (Flow×Shared×Code×Pos)):=(fun os=>segRun treeTable pw w (nat_lit 11) (some (.ref 6)) (nat_lit 1) (nat_lit 1) (Sa w os) (blockOf (behindTheImports pw) hE hC ⟨0,0,0,0⟩ hB),fun os=>some (Flow.next,(Sb w os).abs,hC,⟨0,0,0,0⟩))
theorem qb_eq:HD.blk pw (nat_lit 11) (some (.ref 6)) (nat_lit 1) Sa Sb (behindTheImports pw) hE hC ⟨0,0,0,0⟩ ⟨0,0,0,0⟩ hB=qb:=by kernel_rfl
name_quick YK55b for qb by qb_eq
theorem ib (w:World):(Fast.YK55b w).1=(Fast.YK55b w).2:=by kernel_rfl
theorem hb:HD.Ok (HD.blk pw (nat_lit 11) (some (.ref 6)) (nat_lit 1) Sa Sb (behindTheImports pw) hE hC ⟨0,0,0,0⟩ ⟨0,0,0,0⟩ hB):=HD.by1 Fast.YK55b_eq ib
def o3_1 (P:Params):Obj:=⟨(.type "dict"),none,(.dict #[⟨(PyData.keyHash P x0),(.str x0 165),(.str x169 194)⟩,⟨(PyData.keyHash P x2),(.str x2 166),.none⟩,⟨(PyData.keyHash P x3),(.str x3 167),.none⟩,⟨(PyData.keyHash P x4),(.str x4 168),(.builtin "__main__.__loader__#opaque")⟩,⟨(PyData.keyHash P x5),(.str x5 169),.none⟩,⟨(PyData.keyHash P x161),(.str x161 170),(.ref 6)⟩,⟨(PyData.keyHash P x162),(.str x162 171),(.ref 4)⟩,⟨(PyData.keyHash P x163),(.str x163 173),(.str x164 172)⟩,⟨(PyData.keyHash P x165),(.str x165 174),.none⟩,⟨(PyData.keyHash P x167),(.str x167 193),(.ref 21)⟩,⟨(PyData.keyHash P x170),(.str x170 220),(.ref 38)⟩] 11),#[]⟩
def o12_1 (P:Params):Obj:=⟨.none,none,(.fields #[(HD.i 1),(HD.i 0),(.ref 20),(HD.i 5),(HD.i 0),(.ref 27)]),#[]⟩
def o15_1 (P:Params):Obj:=⟨(.type "tuple"),none,(.seq #[] 0),#[]⟩
def o16_1 (P:Params):Obj:=⟨.none,none,(.fields #[]),#[]⟩
def o17_1 (P:Params):Obj:=⟨(.type "tuple"),none,(.seq #[(.str x168 190)] 0),#[]⟩
def o18_1 (P:Params):Obj:=⟨(.type "tuple"),none,(.seq #[] 0),#[]⟩
def o19_1 (P:Params):Obj:=⟨.none,none,(.func ⟨x167,x167,L2.defArgs (ht 0),.stmts (L2.defBody (ht 0)),L2.defScope (ht 0),0,[],.none,.none,.none,.none,none,.none,.none,0⟩),#[]⟩
def o20_1 (P:Params):Obj:=⟨(.type "code"),none,(.fields #[(.str x167 187),(.str x167 188),(.str x164 189),(HD.i 1),(HD.i 1),(HD.i 0),(HD.i 0),(HD.i 3),(.ref 15),(.bool true),(HD.i 181),(.ref 16),.none,(.ref 17),(.ref 18),(.ref 19),(HD.i 191),(HD.i 1),(.str x164 192)]),#[]⟩
def o21_1 (P:Params):Obj:=⟨(.type "function"),none,(.func ⟨x167,x167,L2.defArgs (ht 0),.stmts (L2.defBody (ht 0)),L2.defScope (ht 0),3,[],.none,.none,.none,(.str x160 164),none,(.ref 20),.none,0⟩),#[]⟩
def o22_1 (P:Params):Obj:=⟨(.type "tuple"),none,(.seq #[(.type "ValueError")] 0),#[]⟩
def o23_1 (P:Params):Obj:=⟨(.type "builtin_function_or_method"),none,(.fields #[(.builtin "type.__prepare__"),(.type "type")]),#[]⟩
def o24_1 (P:Params):Obj:=⟨(.type "dict"),none,(.dict #[⟨(PyData.keyHash P x171),(.str x171 203),(.str x169 194)⟩,⟨(PyData.keyHash P x172),(.str x172 205),(.str x170 204)⟩,⟨(PyData.keyHash P x173),(.str x173 207),(.int (.ofNat 5) 206)⟩,⟨(PyData.keyHash P x174),(.str x174 214),(.ref 35)⟩,⟨(PyData.keyHash P x175),(.str x175 215),(.ref 36)⟩] 5),#[]⟩
def o25_1 (P:Params):Obj:=⟨(.type "tuple"),none,(.seq #[] 0),#[]⟩
def o26_1 (P:Params):Obj:=⟨.none,none,(.fields #[(HD.i 7),(HD.i 4),(.ref 34)]),#[]⟩
def o27_1 (P:Params):Obj:=⟨(.type "code"),none,(.fields #[(.str x170 198),(.str x170 199),(.str x164 200),(HD.i 5),(HD.i 0),(HD.i 0),(HD.i 0),(HD.i 0),(.ref 25),(.bool false),(HD.i 181),(.ref 26),.none,.none,.none,.none,(HD.i 201),(HD.i 5),(.str x164 202)]),#[]⟩
def o28_1 (P:Params):Obj:=⟨(.type "frame"),none,.plain,#[(some (.ref 27)),(some (.ref 3)),(some (.ref 24)),none,(some (.str x169 194)),none,(some (.ref 0))]⟩
def o29_1 (P:Params):Obj:=⟨(.type "tuple"),none,(.seq #[] 0),#[]⟩
def o30_1 (P:Params):Obj:=⟨.none,none,(.fields #[]),#[]⟩
def o31_1 (P:Params):Obj:=⟨(.type "tuple"),none,(.seq #[(.str x176 211)] 0),#[]⟩
def o32_1 (P:Params):Obj:=⟨(.type "tuple"),none,(.seq #[] 0),#[]⟩
def o33_1 (P:Params):Obj:=⟨.none,none,(.func ⟨x174,x177,L2.defArgs (L2.inClass (ht 2) 0),.stmts (L2.defBody (L2.inClass (ht 2) 0)),L2.defScope (L2.inClass (ht 2) 0),0,[],.none,.none,.none,.none,none,.none,.none,0⟩),#[]⟩
def o34_1 (P:Params):Obj:=⟨(.type "code"),none,(.fields #[(.str x174 208),(.str x177 209),(.str x164 210),(HD.i 7),(HD.i 1),(HD.i 0),(HD.i 0),(HD.i 3),(.ref 29),(.bool true),(HD.i 181),(.ref 30),.none,(.ref 31),(.ref 32),(.ref 33),(HD.i 212),(HD.i 7),(.str x164 213)]),#[]⟩
def o35_1 (P:Params):Obj:=⟨(.type "function"),none,(.func ⟨x174,x177,L2.defArgs (L2.inClass (ht 2) 0),.stmts (L2.defBody (L2.inClass (ht 2) 0)),L2.defScope (L2.inClass (ht 2) 0),3,[],.none,.none,.none,(.str x169 194),none,(.ref 34),.none,0⟩),#[]⟩
def o36_1 (P:Params):Obj:=⟨(.type "tuple"),none,(.seq #[] 0),#[]⟩
def o37_1 (P:Params):Obj:=⟨(.type "dict"),none,(.dict #[⟨(PyData.keyHash P x171),(.str x171 203),(.str x169 194)⟩,⟨(PyData.keyHash P x173),(.str x173 207),(.int (.ofNat 5) 206)⟩,⟨(PyData.keyHash P x174),(.str x174 214),(.ref 35)⟩,⟨(PyData.keyHash P x175),(.str x175 215),(.ref 36)⟩,⟨(PyData.keyHash P x178),(.str x178 217),(.ref 39)⟩,⟨(PyData.keyHash P x2),(.str x2 218),.none⟩] 3),#[]⟩
def o38_1 (P:Params):Obj:=⟨(.type "type"),none,(.cls ⟨x170,[(.type "ValueError")],[(.ref 38),(.type "ValueError"),(.type "Exception"),(.type "BaseException"),(.type "object")],37,x170,true,[],[],false,none,false⟩),#[(some (.ref 22)),none,(some (.str x170 196)),(some (.str x170 204)),(some (.builtin "ValueError.__new__")),(some (.bool true))]⟩
def o39_1 (P:Params):Obj:=⟨(.type "getset_descriptor"),none,(.fields #[(.str x178 216),(.ref 38),(.builtin "ExceptionGroup.__weakref__"),.none]),#[]⟩
def o40_1 (P:Params):Obj:=⟨(.type "super"),none,(.fields #[(.ref 38),(.ref 38),(.ref 38)]),#[]⟩
def o41_1 (P:Params):Obj:=⟨(.type "builtin_function_or_method"),none,(.fields #[(.builtin "object.__init_subclass__"),(.ref 38)]),#[]⟩
def g1:List Stmt:=[ht 0,ht 1,ht 2]
def T1 (P:Params):BT:=((((((((((((((((((((((((((((((Tb P).ins (nat_lit 3) (o3_1 P)).ins (nat_lit 12) (o12_1 P)).ins (nat_lit 15) (o15_1 P)).ins (nat_lit 16) (o16_1 P)).ins (nat_lit 17) (o17_1 P)).ins (nat_lit 18) (o18_1 P)).ins (nat_lit 19) (o19_1 P)).ins (nat_lit 20) (o20_1 P)).ins (nat_lit 21) (o21_1 P)).ins (nat_lit 22) (o22_1 P)).ins (nat_lit 23) (o23_1 P)).ins (nat_lit 24) (o24_1 P)).ins (nat_lit 25) (o25_1 P)).ins (nat_lit 26) (o26_1 P)).ins (nat_lit 27) (o27_1 P)).ins (nat_lit 28) (o28_1 P)).ins (nat_lit 29) (o29_1 P)).ins (nat_lit 30) (o30_1 P)).ins (nat_lit 31) (o31_1 P)).ins (nat_lit 32) (o32_1 P)).ins (nat_lit 33) (o33_1 P)).ins (nat_lit 34) (o34_1 P)).ins (nat_lit 35) (o35_1 P)).ins (nat_lit 36) (o36_1 P)).ins (nat_lit 37) (o37_1 P)).ins (nat_lit 38) (o38_1 P)).ins (nat_lit 39) (o39_1 P)).ins (nat_lit 40) (o40_1 P)).ins (nat_lit 41) (o41_1 P))
def lf1:Life:=⟨[],[],[],0,[],[],false,#[],[],0,false,false,false,(.ofNat 0),[(.ofNat 2000),(.ofNat 10),(.ofNat 10)],false,0,true,[],[],0,false⟩
abbrev S1 (w:World) (os:OsState):SharedT:=⟨T1 w.params,nat_lit 42,lf1,Array.mk [],⟨0,0,0,0⟩,nat_lit 221,os⟩
def q1 (w:World):(OsState→Option (Flow×SharedT×Code×Pos))×(OsState→Option (Flow×SharedT×Code×Pos)):=(fun os=>segRunT treeTable pw w (nat_lit 11) (some (.ref 6)) (nat_lit 1) (nat_lit 255) (Sb w os) (piecesOf g1 hE hC ⟨0,0,0,0⟩ hB),fun os=>some (Flow.next,S1 w os,hC,⟨5,0,8,16⟩))
theorem q1_eq:HD.seg pw (nat_lit 11) (some (.ref 6)) (nat_lit 255) Sb S1 g1 hE hC ⟨0,0,0,0⟩ ⟨5,0,8,16⟩ hB=q1:=by kernel_rfl
name_quick YK551 for q1 by q1_eq
theorem i1 (w:World):(Fast.YK551 w).1=(Fast.YK551 w).2:=by kernel_rfl
theorem h1:HD.Ok (HD.seg pw (nat_lit 11) (some (.ref 6)) (nat_lit 255) Sb S1 g1 hE hC ⟨0,0,0,0⟩ ⟨5,0,8,16⟩ hB):=HD.by1 Fast.YK551_eq i1
def o3_2 (P:Params):Obj:=⟨(.type "dict"),none,(.dict #[⟨(PyData.keyHash P x0),(.str x0 165),(.str x169 194)⟩,⟨(PyData.keyHash P x2),(.str x2 166),.none⟩,⟨(PyData.keyHash P x3),(.str x3 167),.none⟩,⟨(PyData.keyHash P x4),(.str x4 168),(.builtin "__main__.__loader__#opaque")⟩,⟨(PyData.keyHash P x5),(.str x5 169),.none⟩,⟨(PyData.keyHash P x161),(.str x161 170),(.ref 6)⟩,⟨(PyData.keyHash P x162),(.str x162 171),(.ref 4)⟩,⟨(PyData.keyHash P x163),(.str x163 173),(.str x164 172)⟩,⟨(PyData.keyHash P x165),(.str x165 174),.none⟩,⟨(PyData.keyHash P x167),(.str x167 193),(.ref 21)⟩,⟨(PyData.keyHash P x170),(.str x170 220),(.ref 38)⟩,⟨(PyData.keyHash P x179),(.str x179 243),(.ref 58)⟩] 12),#[]⟩
def o12_2 (P:Params):Obj:=⟨.none,none,(.fields #[(HD.i 1),(HD.i 0),(.ref 20),(HD.i 5),(HD.i 0),(.ref 27),(HD.i 9),(HD.i 0),(.ref 47)]),#[]⟩
def o38_2 (P:Params):Obj:=⟨(.type "type"),none,(.cls ⟨x170,[(.type "ValueError")],[(.ref 38),(.type "ValueError"),(.type "Exception"),(.type "BaseException"),(.type "object")],37,x170,true,[],[(.ref 58)],false,none,false⟩),#[(some (.ref 22)),none,(some (.str x170 196)),(some (.str x170 204)),(some (.builtin "ValueError.__new__")),(some (.bool true))]⟩
def o42_2 (P:Params):Obj:=⟨(.type "tuple"),none,(.seq #[(.ref 38)] 0),#[]⟩
def o43_2 (P:Params):Obj:=⟨(.type "builtin_function_or_method"),none,(.fields #[(.builtin "type.__prepare__"),(.type "type")]),#[]⟩
def o44_2 (P:Params):Obj:=⟨(.type "dict"),none,(.dict #[⟨(PyData.keyHash P x171),(.str x171 228),(.str x169 194)⟩,⟨(PyData.keyHash P x172),(.str x172 230),(.str x179 229)⟩,⟨(PyData.keyHash P x173),(.str x173 232),(.int (.ofNat 9) 231)⟩,⟨(PyData.keyHash P x174),(.str x174 239),(.ref 55)⟩,⟨(PyData.keyHash P x175),(.str x175 240),(.ref 56)⟩] 5),#[]⟩
def o45_2 (P:Params):Obj:=⟨(.type "tuple"),none,(.seq #[] 0),#[]⟩
def o46_2 (P:Params):Obj:=⟨.none,none,(.fields #[(HD.i 11),(HD.i 4),(.ref 54)]),#[]⟩
def o47_2 (P:Params):Obj:=⟨(.type "code"),none,(.fields #[(.str x179 223),(.str x179 224),(.str x164 225),(HD.i 9),(HD.i 0),(HD.i 0),(HD.i 0),(HD.i 0),(.ref 45),(.bool false),(HD.i 181),(.ref 46),.none,.none,.none,.none,(HD.i 226),(HD.i 9),(.str x164 227)]),#[]⟩
def o48_2 (P:Params):Obj:=⟨(.type "frame"),none,.plain,#[(some (.ref 47)),(some (.ref 3)),(some (.ref 44)),none,(some (.str x169 194)),none,(some (.ref 0))]⟩
def o49_2 (P:Params):Obj:=⟨(.type "tuple"),none,(.seq #[] 0),#[]⟩
def o50_2 (P:Params):Obj:=⟨.none,none,(.fields #[]),#[]⟩
def o51_2 (P:Params):Obj:=⟨(.type "tuple"),none,(.seq #[(.str x176 236)] 0),#[]⟩
def o52_2 (P:Params):Obj:=⟨(.type "tuple"),none,(.seq #[] 0),#[]⟩
def o53_2 (P:Params):Obj:=⟨.none,none,(.func ⟨x174,x180,L2.defArgs (L2.inClass (ht 3) 0),.stmts (L2.defBody (L2.inClass (ht 3) 0)),L2.defScope (L2.inClass (ht 3) 0),0,[],.none,.none,.none,.none,none,.none,.none,0⟩),#[]⟩
def o54_2 (P:Params):Obj:=⟨(.type "code"),none,(.fields #[(.str x174 233),(.str x180 234),(.str x164 235),(HD.i 11),(HD.i 1),(HD.i 0),(HD.i 0),(HD.i 3),(.ref 49),(.bool true),(HD.i 181),(.ref 50),.none,(.ref 51),(.ref 52),(.ref 53),(HD.i 237),(HD.i 11),(.str x164 238)]),#[]⟩
def o55_2 (P:Params):Obj:=⟨(.type "function"),none,(.func ⟨x174,x180,L2.defArgs (L2.inClass (ht 3) 0),.stmts (L2.defBody (L2.inClass (ht 3) 0)),L2.defScope (L2.inClass (ht 3) 0),3,[],.none,.none,.none,(.str x169 194),none,(.ref 54),.none,0⟩),#[]⟩
def o56_2 (P:Params):Obj:=⟨(.type "tuple"),none,(.seq #[] 0),#[]⟩
def o57_2 (P:Params):Obj:=⟨(.type "dict"),none,(.dict #[⟨(PyData.keyHash P x171),(.str x171 228),(.str x169 194)⟩,⟨(PyData.keyHash P x173),(.str x173 232),(.int (.ofNat 9) 231)⟩,⟨(PyData.keyHash P x174),(.str x174 239),(.ref 55)⟩,⟨(PyData.keyHash P x175),(.str x175 240),(.ref 56)⟩,⟨(PyData.keyHash P x2),(.str x2 241),.none⟩] 2),#[]⟩
def o58_2 (P:Params):Obj:=⟨(.type "type"),none,(.cls ⟨x179,[(.ref 38)],[(.ref 58),(.ref 38),(.type "ValueError"),(.type "Exception"),(.type "BaseException"),(.type "object")],57,x179,true,[],[],false,none,false⟩),#[(some (.ref 42)),none,(some (.str x179 221)),(some (.str x179 229)),(some (.builtin "ValueError.__new__")),(some (.bool true))]⟩
def o59_2 (P:Params):Obj:=⟨(.type "super"),none,(.fields #[(.ref 58),(.ref 58),(.ref 58)]),#[]⟩
def o60_2 (P:Params):Obj:=⟨(.type "builtin_function_or_method"),none,(.fields #[(.builtin "object.__init_subclass__"),(.ref 58)]),#[]⟩
def g2:List Stmt:=[ht 3]
def T2 (P:Params):BT:=(((((((((((((((((((((((T1 P).ins (nat_lit 3) (o3_2 P)).ins (nat_lit 12) (o12_2 P)).ins (nat_lit 38) (o38_2 P)).ins (nat_lit 42) (o42_2 P)).ins (nat_lit 43) (o43_2 P)).ins (nat_lit 44) (o44_2 P)).ins (nat_lit 45) (o45_2 P)).ins (nat_lit 46) (o46_2 P)).ins (nat_lit 47) (o47_2 P)).ins (nat_lit 48) (o48_2 P)).ins (nat_lit 49) (o49_2 P)).ins (nat_lit 50) (o50_2 P)).ins (nat_lit 51) (o51_2 P)).ins (nat_lit 52) (o52_2 P)).ins (nat_lit 53) (o53_2 P)).ins (nat_lit 54) (o54_2 P)).ins (nat_lit 55) (o55_2 P)).ins (nat_lit 56) (o56_2 P)).ins (nat_lit 57) (o57_2 P)).ins (nat_lit 58) (o58_2 P)).ins (nat_lit 59) (o59_2 P)).ins (nat_lit 60) (o60_2 P))
def lf2:Life:=⟨[],[],[],0,[],[],false,#[],[],0,false,false,false,(.ofNat 0),[(.ofNat 2000),(.ofNat 10),(.ofNat 10)],false,0,true,[],[],0,false⟩
abbrev S2 (w:World) (os:OsState):SharedT:=⟨T2 w.params,nat_lit 61,lf2,Array.mk [],⟨0,0,0,0⟩,nat_lit 244,os⟩
def q2 (w:World):(OsState→Option (Flow×SharedT×Code×Pos))×(OsState→Option (Flow×SharedT×Code×Pos)):=(fun os=>segRunT treeTable pw w (nat_lit 11) (some (.ref 6)) (nat_lit 1) (nat_lit 244) (S1 w os) (piecesOf g2 hE hC ⟨5,0,8,16⟩ hB),fun os=>some (Flow.next,S2 w os,hC,⟨9,0,12,16⟩))
theorem q2_eq:HD.seg pw (nat_lit 11) (some (.ref 6)) (nat_lit 244) S1 S2 g2 hE hC ⟨5,0,8,16⟩ ⟨9,0,12,16⟩ hB=q2:=by kernel_rfl
name_quick YK552 for q2 by q2_eq
theorem i2 (w:World):(Fast.YK552 w).1=(Fast.YK552 w).2:=by kernel_rfl
theorem h2:HD.Ok (HD.seg pw (nat_lit 11) (some (.ref 6)) (nat_lit 244) S1 S2 g2 hE hC ⟨5,0,8,16⟩ ⟨9,0,12,16⟩ hB):=HD.by1 Fast.YK552_eq i2
def o3_3 (P:Params):Obj:=⟨(.type "dict"),none,(.dict #[⟨(PyData.keyHash P x0),(.str x0 165),(.str x183 267)⟩,⟨(PyData.keyHash P x2),(.str x2 166),.none⟩,⟨(PyData.keyHash P x3),(.str x3 167),.none⟩,⟨(PyData.keyHash P x4),(.str x4 168),(.builtin "__main__.__loader__#opaque")⟩,⟨(PyData.keyHash P x5),(.str x5 169),.none⟩,⟨(PyData.keyHash P x161),(.str x161 170),(.ref 6)⟩,⟨(PyData.keyHash P x162),(.str x162 171),(.ref 4)⟩,⟨(PyData.keyHash P x163),(.str x163 173),(.str x164 172)⟩,⟨(PyData.keyHash P x165),(.str x165 174),.none⟩,⟨(PyData.keyHash P x167),(.str x167 193),(.ref 21)⟩,⟨(PyData.keyHash P x170),(.str x170 220),(.ref 38)⟩,⟨(PyData.keyHash P x179),(.str x179 243),(.ref 58)⟩,⟨(PyData.keyHash P x181),(.str x181 266),(.ref 77)⟩,⟨(PyData.keyHash P x184),(.str x184 270),(.int (.ofNat 600) 269)⟩,⟨(PyData.keyHash P x185),(.str x185 272),(.int (.ofNat 40) 271)⟩,⟨(PyData.keyHash P x186),(.str x186 274),(.int (.ofNat 99) 273)⟩,⟨(PyData.keyHash P x187),(.str x187 276),(.int (.ofNat 12) 275)⟩,⟨(PyData.keyHash P x188),(.str x188 278),(.str x189 277)⟩,⟨(PyData.keyHash P x190),(.str x190 284),(.ref 80)⟩] 19),#[]⟩
def o12_3 (P:Params):Obj:=⟨.none,none,(.fields #[(HD.i 1),(HD.i 0),(.ref 20),(HD.i 5),(HD.i 0),(.ref 27),(HD.i 9),(HD.i 0),(.ref 47),(HD.i 13),(HD.i 0),(.ref 66)]),#[]⟩
def o38_3 (P:Params):Obj:=⟨(.type "type"),none,(.cls ⟨x170,[(.type "ValueError")],[(.ref 38),(.type "ValueError"),(.type "Exception"),(.type "BaseException"),(.type "object")],37,x170,true,[],[(.ref 58),(.ref 77)],false,none,false⟩),#[(some (.ref 22)),none,(some (.str x170 196)),(some (.str x170 204)),(some (.builtin "ValueError.__new__")),(some (.bool true))]⟩
def o61_3 (P:Params):Obj:=⟨(.type "tuple"),none,(.seq #[(.ref 38)] 0),#[]⟩
def o62_3 (P:Params):Obj:=⟨(.type "builtin_function_or_method"),none,(.fields #[(.builtin "type.__prepare__"),(.type "type")]),#[]⟩
def o63_3 (P:Params):Obj:=⟨(.type "dict"),none,(.dict #[⟨(PyData.keyHash P x171),(.str x171 251),(.str x169 194)⟩,⟨(PyData.keyHash P x172),(.str x172 253),(.str x181 252)⟩,⟨(PyData.keyHash P x173),(.str x173 255),(.int (.ofNat 13) 254)⟩,⟨(PyData.keyHash P x174),(.str x174 262),(.ref 74)⟩,⟨(PyData.keyHash P x175),(.str x175 263),(.ref 75)⟩] 5),#[]⟩
def o64_3 (P:Params):Obj:=⟨(.type "tuple"),none,(.seq #[] 0),#[]⟩
def o65_3 (P:Params):Obj:=⟨.none,none,(.fields #[(HD.i 15),(HD.i 4),(.ref 73)]),#[]⟩
def o66_3 (P:Params):Obj:=⟨(.type "code"),none,(.fields #[(.str x181 246),(.str x181 247),(.str x164 248),(HD.i 13),(HD.i 0),(HD.i 0),(HD.i 0),(HD.i 0),(.ref 64),(.bool false),(HD.i 181),(.ref 65),.none,.none,.none,.none,(HD.i 249),(HD.i 13),(.str x164 250)]),#[]⟩
def o67_3 (P:Params):Obj:=⟨(.type "frame"),none,.plain,#[(some (.ref 66)),(some (.ref 3)),(some (.ref 63)),none,(some (.str x169 194)),none,(some (.ref 0))]⟩
def o68_3 (P:Params):Obj:=⟨(.type "tuple"),none,(.seq #[] 0),#[]⟩
def o69_3 (P:Params):Obj:=⟨.none,none,(.fields #[]),#[]⟩
def o70_3 (P:Params):Obj:=⟨(.type "tuple"),none,(.seq #[(.str x176 259)] 0),#[]⟩
def o71_3 (P:Params):Obj:=⟨(.type "tuple"),none,(.seq #[] 0),#[]⟩
def o72_3 (P:Params):Obj:=⟨.none,none,(.func ⟨x174,x182,L2.defArgs (L2.inClass (ht 4) 0),.stmts (L2.defBody (L2.inClass (ht 4) 0)),L2.defScope (L2.inClass (ht 4) 0),0,[],.none,.none,.none,.none,none,.none,.none,0⟩),#[]⟩
def o73_3 (P:Params):Obj:=⟨(.type "code"),none,(.fields #[(.str x174 256),(.str x182 257),(.str x164 258),(HD.i 15),(HD.i 1),(HD.i 0),(HD.i 0),(HD.i 3),(.ref 68),(.bool true),(HD.i 181),(.ref 69),.none,(.ref 70),(.ref 71),(.ref 72),(HD.i 260),(HD.i 15),(.str x164 261)]),#[]⟩
def o74_3 (P:Params):Obj:=⟨(.type "function"),none,(.func ⟨x174,x182,L2.defArgs (L2.inClass (ht 4) 0),.stmts (L2.defBody (L2.inClass (ht 4) 0)),L2.defScope (L2.inClass (ht 4) 0),3,[],.none,.none,.none,(.str x169 194),none,(.ref 73),.none,0⟩),#[]⟩
def o75_3 (P:Params):Obj:=⟨(.type "tuple"),none,(.seq #[] 0),#[]⟩
def o76_3 (P:Params):Obj:=⟨(.type "dict"),none,(.dict #[⟨(PyData.keyHash P x171),(.str x171 251),(.str x169 194)⟩,⟨(PyData.keyHash P x173),(.str x173 255),(.int (.ofNat 13) 254)⟩,⟨(PyData.keyHash P x174),(.str x174 262),(.ref 74)⟩,⟨(PyData.keyHash P x175),(.str x175 263),(.ref 75)⟩,⟨(PyData.keyHash P x2),(.str x2 264),.none⟩] 2),#[]⟩
def o77_3 (P:Params):Obj:=⟨(.type "type"),none,(.cls ⟨x181,[(.ref 38)],[(.ref 77),(.ref 38),(.type "ValueError"),(.type "Exception"),(.type "BaseException"),(.type "object")],76,x181,true,[],[],false,none,false⟩),#[(some (.ref 61)),none,(some (.str x181 244)),(some (.str x181 252)),(some (.builtin "ValueError.__new__")),(some (.bool true))]⟩
def o78_3 (P:Params):Obj:=⟨(.type "super"),none,(.fields #[(.ref 77),(.ref 77),(.ref 77)]),#[]⟩
def o79_3 (P:Params):Obj:=⟨(.type "builtin_function_or_method"),none,(.fields #[(.builtin "object.__init_subclass__"),(.ref 77)]),#[]⟩
def o80_3 (P:Params):Obj:=⟨(.type "tuple"),none,(.seq #[(.str x191 279),(.str x192 280),(.str x9 281),(.str x193 282),(.str x194 283)] 0),#[]⟩
def g3:List Stmt:=[ht 4,ht 5,ht 6,ht 7,ht 8,ht 9,ht 10,ht 11]
def T3 (P:Params):BT:=((((((((((((((((((((((((T2 P).ins (nat_lit 3) (o3_3 P)).ins (nat_lit 12) (o12_3 P)).ins (nat_lit 38) (o38_3 P)).ins (nat_lit 61) (o61_3 P)).ins (nat_lit 62) (o62_3 P)).ins (nat_lit 63) (o63_3 P)).ins (nat_lit 64) (o64_3 P)).ins (nat_lit 65) (o65_3 P)).ins (nat_lit 66) (o66_3 P)).ins (nat_lit 67) (o67_3 P)).ins (nat_lit 68) (o68_3 P)).ins (nat_lit 69) (o69_3 P)).ins (nat_lit 70) (o70_3 P)).ins (nat_lit 71) (o71_3 P)).ins (nat_lit 72) (o72_3 P)).ins (nat_lit 73) (o73_3 P)).ins (nat_lit 74) (o74_3 P)).ins (nat_lit 75) (o75_3 P)).ins (nat_lit 76) (o76_3 P)).ins (nat_lit 77) (o77_3 P)).ins (nat_lit 78) (o78_3 P)).ins (nat_lit 79) (o79_3 P)).ins (nat_lit 80) (o80_3 P))
def lf3:Life:=⟨[],[],[],0,[],[],false,#[],[],0,false,false,false,(.ofNat 0),[(.ofNat 2000),(.ofNat 10),(.ofNat 10)],false,0,true,[],[],0,false⟩
abbrev S3 (w:World) (os:OsState):SharedT:=⟨T3 w.params,nat_lit 81,lf3,Array.mk [],⟨0,0,0,0⟩,nat_lit 285,os⟩
def q3 (w:World):(OsState→Option (Flow×SharedT×Code×Pos))×(OsState→Option (Flow×SharedT×Code×Pos)):=(fun os=>segRunT treeTable pw w (nat_lit 11) (some (.ref 6)) (nat_lit 1) (nat_lit 313) (S2 w os) (piecesOf g3 hE hC ⟨9,0,12,16⟩ hB),fun os=>some (Flow.next,S3 w os,hC,⟨23,0,23,10⟩))
theorem q3_eq:HD.seg pw (nat_lit 11) (some (.ref 6)) (nat_lit 313) S2 S3 g3 hE hC ⟨9,0,12,16⟩ ⟨23,0,23,10⟩ hB=q3:=by kernel_rfl
name_quick YK553 for q3 by q3_eq
theorem i3 (w:World):(Fast.YK553 w).1=(Fast.YK553 w).2:=by kernel_rfl
theorem h3:HD.Ok (HD.seg pw (nat_lit 11) (some (.ref 6)) (nat_lit 313) S2 S3 g3 hE hC ⟨9,0,12,16⟩ ⟨23,0,23,10⟩ hB):=HD.by1 Fast.YK553_eq i3
def o3_4 (P:Params):Obj:=⟨(.type "dict"),none,(.dict #[⟨(PyData.keyHash P x0),(.str x0 165),(.str x183 267)⟩,⟨(PyData.keyHash P x2),(.str x2 166),.none⟩,⟨(PyData.keyHash P x3),(.str x3 167),.none⟩,⟨(PyData.keyHash P x4),(.str x4 168),(.builtin "__main__.__loader__#opaque")⟩,⟨(PyData.keyHash P x5),(.str x5 169),.none⟩,⟨(PyData.keyHash P x161),(.str x161 170),(.ref 6)⟩,⟨(PyData.keyHash P x162),(.str x162 171),(.ref 4)⟩,⟨(PyData.keyHash P x163),(.str x163 173),(.str x164 172)⟩,⟨(PyData.keyHash P x165),(.str x165 174),.none⟩,⟨(PyData.keyHash P x167),(.str x167 193),(.ref 21)⟩,⟨(PyData.keyHash P x170),(.str x170 220),(.ref 38)⟩,⟨(PyData.keyHash P x179),(.str x179 243),(.ref 58)⟩,⟨(PyData.keyHash P x181),(.str x181 266),(.ref 77)⟩,⟨(PyData.keyHash P x184),(.str x184 270),(.int (.ofNat 600) 269)⟩,⟨(PyData.keyHash P x185),(.str x185 272),(.int (.ofNat 40) 271)⟩,⟨(PyData.keyHash P x186),(.str x186 274),(.int (.ofNat 99) 273)⟩,⟨(PyData.keyHash P x187),(.str x187 276),(.int (.ofNat 12) 275)⟩,⟨(PyData.keyHash P x188),(.str x188 278),(.str x189 277)⟩,⟨(PyData.keyHash P x190),(.str x190 284),(.ref 80)⟩,⟨(PyData.keyHash P x195),(.str x195 349),(.ref 81)⟩] 20),#[]⟩
def o81_4 (P:Params):Obj:=⟨(.type "dict"),none,(.dict #[⟨(PyData.keyHash P x191),(.str x191 285),(.ref 82)⟩,⟨(PyData.keyHash P x192),(.str x192 287),(.ref 83)⟩,⟨(PyData.keyHash P x9),(.str x9 289),(.ref 84)⟩,⟨(PyData.keyHash P x193),(.str x193 293),(.ref 85)⟩,⟨(PyData.keyHash P x194),(.str x194 297),(.ref 86)⟩,⟨(PyData.keyHash P x196),(.str x196 302),(.ref 87)⟩,⟨(PyData.keyHash P x197),(.str x197 304),(.ref 88)⟩,⟨(PyData.keyHash P x198),(.str x198 308),(.ref 89)⟩,⟨(PyData.keyHash P x199),(.str x199 312),(.ref 90)⟩,⟨(PyData.keyHash P x38),(.str x38 314),(.ref 91)⟩,⟨(PyData.keyHash P x200),(.str x200 317),(.ref 92)⟩,⟨(PyData.keyHash P x201),(.str x201 323),(.ref 93)⟩,⟨(PyData.keyHash P x202),(.str x202 327),(.ref 94)⟩,⟨(PyData.keyHash P x203),(.str x203 332),(.ref 95)⟩,⟨(PyData.keyHash P x204),(.str x204 336),(.ref 96)⟩,⟨(PyData.keyHash P x205),(.str x205 341),(.ref 97)⟩,⟨(PyData.keyHash P x206),(.str x206 344),(.ref 98)⟩,⟨(PyData.keyHash P x207),(.str x207 347),(.ref 100)⟩] 18),#[]⟩
def o82_4 (P:Params):Obj:=⟨(.type "tuple"),none,(.seq #[] 0),#[]⟩
def o83_4 (P:Params):Obj:=⟨(.type "tuple"),none,(.seq #[] 0),#[]⟩
def o84_4 (P:Params):Obj:=⟨(.type "tuple"),none,(.seq #[(.str x208 290),(.str x208 291)] 0),#[]⟩
def o85_4 (P:Params):Obj:=⟨(.type "tuple"),none,(.seq #[(.str x208 294),(.str x208 295)] 0),#[]⟩
def o86_4 (P:Params):Obj:=⟨(.type "tuple"),none,(.seq #[(.str x208 298),(.str x209 299),(.str x209 300)] 0),#[]⟩
def o87_4 (P:Params):Obj:=⟨(.type "tuple"),none,(.seq #[] 0),#[]⟩
def o88_4 (P:Params):Obj:=⟨(.type "tuple"),none,(.seq #[(.str x208 305),(.str x209 306)] 0),#[]⟩
def o89_4 (P:Params):Obj:=⟨(.type "tuple"),none,(.seq #[(.str x209 309),(.str x209 310)] 0),#[]⟩
def o90_4 (P:Params):Obj:=⟨(.type "tuple"),none,(.seq #[] 0),#[]⟩
def o91_4 (P:Params):Obj:=⟨(.type "tuple"),none,(.seq #[(.str x209 315)] 0),#[]⟩
def o92_4 (P:Params):Obj:=⟨(.type "tuple"),none,(.seq #[(.str x208 318),(.str x209 319),(.str x209 320),(.str x209 321)] 0),#[]⟩
def o93_4 (P:Params):Obj:=⟨(.type "tuple"),none,(.seq #[(.str x208 324),(.str x209 325)] 0),#[]⟩
def o94_4 (P:Params):Obj:=⟨(.type "tuple"),none,(.seq #[(.str x208 328),(.str x209 329),(.str x209 330)] 0),#[]⟩
def o95_4 (P:Params):Obj:=⟨(.type "tuple"),none,(.seq #[(.str x208 333),(.str x209 334)] 0),#[]⟩
def o96_4 (P:Params):Obj:=⟨(.type "tuple"),none,(.seq #[(.str x208 337),(.str x209 338),(.str x209 339)] 0),#[]⟩
def o97_4 (P:Params):Obj:=⟨(.type "tuple"),none,(.seq #[(.str x209 342)] 0),#[]⟩
def o98_4 (P:Params):Obj:=⟨(.type "tuple"),none,(.seq #[(.str x209 345)] 0),#[]⟩
def o99_4 (P:Params):Obj:=⟨(.type "dict"),none,(.dict #[⟨(PyData.keyHash P x207),(.str x207 347),(.ref 100)⟩] 1),#[]⟩
def o100_4 (P:Params):Obj:=⟨(.type "tuple"),none,(.seq #[] 0),#[]⟩
def g4:List Stmt:=[ht 12]
def T4 (P:Params):BT:=((((((((((((((((((((((T3 P).ins (nat_lit 3) (o3_4 P)).ins (nat_lit 81) (o81_4 P)).ins (nat_lit 82) (o82_4 P)).ins (nat_lit 83) (o83_4 P)).ins (nat_lit 84) (o84_4 P)).ins (nat_lit 85) (o85_4 P)).ins (nat_lit 86) (o86_4 P)).ins (nat_lit 87) (o87_4 P)).ins (nat_lit 88) (o88_4 P)).ins (nat_lit 89) (o89_4 P)).ins (nat_lit 90) (o90_4 P)).ins (nat_lit 91) (o91_4 P)).ins (nat_lit 92) (o92_4 P)).ins (nat_lit 93) (o93_4 P)).ins (nat_lit 94) (o94_4 P)).ins (nat_lit 95) (o95_4 P)).ins (nat_lit 96) (o96_4 P)).ins (nat_lit 97) (o97_4 P)).ins (nat_lit 98) (o98_4 P)).ins (nat_lit 99) (o99_4 P)).ins (nat_lit 100) (o100_4 P))
def lf4:Life:=⟨[],[],[],0,[],[],false,#[],[],0,false,false,false,(.ofNat 0),[(.ofNat 2000),(.ofNat 10),(.ofNat 10)],false,0,true,[],[],0,false⟩
abbrev S4 (w:World) (os:OsState):SharedT:=⟨T4 w.params,nat_lit 101,lf4,Array.mk [],⟨0,0,0,0⟩,nat_lit 350,os⟩
def q4f (w:World):(OsState→Option (Flow×SharedT×Code×Pos))×(OsState→Option (Flow×SharedT×Code×Pos)):=(fun os=>segRunT treeTable pw (w.withFollow "special-get-raises" false) (nat_lit 11) (some (.ref 6)) (nat_lit 1) (nat_lit 340) (S3 (w.withFollow "special-get-raises" false) os) (piecesOf g4 hE hC ⟨23,0,23,10⟩ hB),fun os=>some (Flow.next,S4 (w.withFollow "special-get-raises" false) os,hC,⟨24,0,24,8⟩))
theorem q4f_eq:(fun w:World=>HD.seg pw (nat_lit 11) (some (.ref 6)) (nat_lit 340) S3 S4 g4 hE hC ⟨23,0,23,10⟩ ⟨24,0,24,8⟩ hB (w.withFollow "special-get-raises" false))=q4f:=by kernel_rfl
name_quick YK554f for q4f by q4f_eq
theorem i4f (w:World):(Fast.YK554f w).1=(Fast.YK554f w).2:=by kernel_rfl
def q4t (w:World):(OsState→Option (Flow×SharedT×Code×Pos))×(OsState→Option (Flow×SharedT×Code×Pos)):=(fun os=>segRunT treeTable pw (w.withFollow "special-get-raises" true) (nat_lit 11) (some (.ref 6)) (nat_lit 1) (nat_lit 340) (S3 (w.withFollow "special-get-raises" true) os) (piecesOf g4 hE hC ⟨23,0,23,10⟩ hB),fun os=>some (Flow.next,S4 (w.withFollow "special-get-raises" true) os,hC,⟨24,0,24,8⟩))
theorem q4t_eq:(fun w:World=>HD.seg pw (nat_lit 11) (some (.ref 6)) (nat_lit 340) S3 S4 g4 hE hC ⟨23,0,23,10⟩ ⟨24,0,24,8⟩ hB (w.withFollow "special-get-raises" true))=q4t:=by kernel_rfl
name_quick YK554t for q4t by q4t_eq
theorem i4t (w:World):(Fast.YK554t w).1=(Fast.YK554t w).2:=by kernel_rfl
theorem h4:HD.Ok (HD.seg pw (nat_lit 11) (some (.ref 6)) (nat_lit 340) S3 S4 g4 hE hC ⟨23,0,23,10⟩ ⟨24,0,24,8⟩ hB):=HD.by2 "special-get-raises" Fast.YK554f_eq Fast.YK554t_eq i4f i4t
def o3_5 (P:Params):Obj:=⟨(.type "dict"),none,(.dict #[⟨(PyData.keyHash P x0),(.str x0 165),(.str x219 406)⟩,⟨(PyData.keyHash P x2),(.str x2 166),.none⟩,⟨(PyData.keyHash P x3),(.str x3 167),.none⟩,⟨(PyData.keyHash P x4),(.str x4 168),(.builtin "__main__.__loader__#opaque")⟩,⟨(PyData.keyHash P x5),(.str x5 169),.none⟩,⟨(PyData.keyHash P x161),(.str x161 170),(.ref 6)⟩,⟨(PyData.keyHash P x162),(.str x162 171),(.ref 4)⟩,⟨(PyData.keyHash P x163),(.str x163 173),(.str x164 172)⟩,⟨(PyData.keyHash P x165),(.str x165 174),.none⟩,⟨(PyData.keyHash P x167),(.str x167 193),(.ref 21)⟩,⟨(PyData.keyHash P x170),(.str x170 220),(.ref 38)⟩,⟨(PyData.keyHash P x179),(.str x179 243),(.ref 58)⟩,⟨(PyData.keyHash P x181),(.str x181 266),(.ref 77)⟩,⟨(PyData.keyHash P x184),(.str x184 270),(.int (.ofNat 600) 269)⟩,⟨(PyData.keyHash P x185),(.str x185 272),(.int (.ofNat 40) 271)⟩,⟨(PyData.keyHash P x186),(.str x186 274),(.int (.ofNat 99) 273)⟩,⟨(PyData.keyHash P x187),(.str x187 276),(.int (.ofNat 12) 275)⟩,⟨(PyData.keyHash P x188),(.str x188 278),(.str x189 277)⟩,⟨(PyData.keyHash P x190),(.str x190 284),(.ref 80)⟩,⟨(PyData.keyHash P x195),(.str x195 349),(.ref 81)⟩,⟨(PyData.keyHash P x210),(.str x210 365),(.ref 101)⟩,⟨(PyData.keyHash P x211),(.str x211 371),(.ref 106)⟩,⟨(PyData.keyHash P x212),(.str x212 377),(.ref 111)⟩,⟨(PyData.keyHash P x213),(.str x213 384),(.ref 118)⟩,⟨(PyData.keyHash P x215),(.str x215 390),(.ref 123)⟩,⟨(PyData.keyHash P x216),(.str x216 397),(.ref 130)⟩,⟨(PyData.keyHash P x218),(.str x218 405),(.ref 135)⟩,⟨(PyData.keyHash P x220),(.str x220 409),(.str x221 408)⟩,⟨(PyData.keyHash P x222),(.str x222 411),(.int (.ofNat 39) 410)⟩] 29),#[]⟩
def o12_5 (P:Params):Obj:=⟨.none,none,(.fields #[(HD.i 1),(HD.i 0),(.ref 20),(HD.i 5),(HD.i 0),(.ref 27),(HD.i 9),(HD.i 0),(.ref 47),(HD.i 13),(HD.i 0),(.ref 66),(HD.i 26),(HD.i 0),(.ref 105),(HD.i 30),(HD.i 0),(.ref 110),(HD.i 42),(HD.i 0),(.ref 117),(HD.i 46),(HD.i 0),(.ref 122),(HD.i 50),(HD.i 0),(.ref 129),(HD.i 55),(HD.i 0),(.ref 134)]),#[]⟩
def o101_5 (P:Params):Obj:=⟨(.type "dict"),none,(.dict #[⟨(PyData.keyHash P x9),(.str x9 350),(.int (.ofNat 1) 351)⟩,⟨(PyData.keyHash P x193),(.str x193 352),(.int (.ofNat 1) 353)⟩,⟨(PyData.keyHash P x197),(.str x197 354),(.int (.ofNat 1) 355)⟩,⟨(PyData.keyHash P x200),(.str x200 356),(.int (.ofNat 0) 357)⟩,⟨(PyData.keyHash P x202),(.str x202 358),(.int (.ofNat 0) 359)⟩] 5),#[]⟩
def o102_5 (P:Params):Obj:=⟨(.type "tuple"),none,(.seq #[] 0),#[]⟩
def o103_5 (P:Params):Obj:=⟨.none,none,(.fields #[]),#[]⟩
def o104_5 (P:Params):Obj:=⟨.none,none,(.func ⟨x211,x211,L2.defArgs (ht 14),.stmts (L2.defBody (ht 14)),L2.defScope (ht 14),0,[],.none,.none,.none,.none,none,.none,.none,0⟩),#[]⟩
def o105_5 (P:Params):Obj:=⟨(.type "code"),none,(.fields #[(.str x211 366),(.str x211 367),(.str x164 368),(HD.i 26),(HD.i 1),(HD.i 0),(HD.i 0),(HD.i 3),(.ref 102),(.bool true),(HD.i 181),(.ref 103),.none,.none,.none,(.ref 104),(HD.i 369),(HD.i 26),(.str x164 370)]),#[]⟩
def o106_5 (P:Params):Obj:=⟨(.type "function"),none,(.func ⟨x211,x211,L2.defArgs (ht 14),.stmts (L2.defBody (ht 14)),L2.defScope (ht 14),3,[],.none,.none,.none,(.str x183 267),none,(.ref 105),.none,0⟩),#[]⟩
def o107_5 (P:Params):Obj:=⟨(.type "tuple"),none,(.seq #[] 0),#[]⟩
def o108_5 (P:Params):Obj:=⟨.none,none,(.fields #[]),#[]⟩
def o109_5 (P:Params):Obj:=⟨.none,none,(.func ⟨x212,x212,L2.defArgs (ht 15),.stmts (L2.defBody (ht 15)),L2.defScope (ht 15),0,[],.none,.none,.none,.none,none,.none,.none,0⟩),#[]⟩
def o110_5 (P:Params):Obj:=⟨(.type "code"),none,(.fields #[(.str x212 372),(.str x212 373),(.str x164 374),(HD.i 30),(HD.i 1),(HD.i 0),(HD.i 0),(HD.i 3),(.ref 107),(.bool true),(HD.i 181),(.ref 108),.none,.none,.none,(.ref 109),(HD.i 375),(HD.i 30),(.str x164 376)]),#[]⟩
def o111_5 (P:Params):Obj:=⟨(.type "function"),none,(.func ⟨x212,x212,L2.defArgs (ht 15),.stmts (L2.defBody (ht 15)),L2.defScope (ht 15),3,[],.none,.none,.none,(.str x183 267),none,(.ref 110),.none,0⟩),#[]⟩
def o112_5 (P:Params):Obj:=⟨(.type "tuple"),none,(.seq #[] 0),#[]⟩
def o113_5 (P:Params):Obj:=⟨.none,none,(.fields #[]),#[]⟩
def o114_5 (P:Params):Obj:=⟨(.type "tuple"),none,(.seq #[(.str x214 381)] 0),#[]⟩
def o115_5 (P:Params):Obj:=⟨(.type "tuple"),none,(.seq #[] 0),#[]⟩
def o116_5 (P:Params):Obj:=⟨.none,none,(.func ⟨x213,x213,L2.defArgs (ht 16),.stmts (L2.defBody (ht 16)),L2.defScope (ht 16),0,[],.none,.none,.none,.none,none,.none,.none,0⟩),#[]⟩
def o117_5 (P:Params):Obj:=⟨(.type "code"),none,(.fields #[(.str x213 378),(.str x213 379),(.str x164 380),(HD.i 42),(HD.i 1),(HD.i 0),(HD.i 0),(HD.i 3),(.ref 112),(.bool true),(HD.i 181),(.ref 113),.none,(.ref 114),(.ref 115),(.ref 116),(HD.i 382),(HD.i 42),(.str x164 383)]),#[]⟩
def o118_5 (P:Params):Obj:=⟨(.type "function"),none,(.func ⟨x213,x213,L2.defArgs (ht 16),.stmts (L2.defBody (ht 16)),L2.defScope (ht 16),3,[],.none,.none,.none,(.str x183 267),none,(.ref 117),.none,0⟩),#[]⟩
def o119_5 (P:Params):Obj:=⟨(.type "tuple"),none,(.seq #[] 0),#[]⟩
def o120_5 (P:Params):Obj:=⟨.none,none,(.fields #[]),#[]⟩
def o121_5 (P:Params):Obj:=⟨.none,none,(.func ⟨x215,x215,L2.defArgs (ht 17),.stmts (L2.defBody (ht 17)),L2.defScope (ht 17),0,[],.none,.none,.none,.none,none,.none,.none,0⟩),#[]⟩
def o122_5 (P:Params):Obj:=⟨(.type "code"),none,(.fields #[(.str x215 385),(.str x215 386),(.str x164 387),(HD.i 46),(HD.i 1),(HD.i 0),(HD.i 0),(HD.i 3),(.ref 119),(.bool true),(HD.i 181),(.ref 120),.none,.none,.none,(.ref 121),(HD.i 388),(HD.i 46),(.str x164 389)]),#[]⟩
def o123_5 (P:Params):Obj:=⟨(.type "function"),none,(.func ⟨x215,x215,L2.defArgs (ht 17),.stmts (L2.defBody (ht 17)),L2.defScope (ht 17),3,[],.none,.none,.none,(.str x183 267),none,(.ref 122),.none,0⟩),#[]⟩
def o124_5 (P:Params):Obj:=⟨(.type "tuple"),none,(.seq #[] 0),#[]⟩
def o125_5 (P:Params):Obj:=⟨.none,none,(.fields #[]),#[]⟩
def o126_5 (P:Params):Obj:=⟨(.type "tuple"),none,(.seq #[(.str x214 394)] 0),#[]⟩
def o127_5 (P:Params):Obj:=⟨(.type "tuple"),none,(.seq #[] 0),#[]⟩
def o128_5 (P:Params):Obj:=⟨.none,none,(.func ⟨x216,x216,L2.defArgs (ht 18),.stmts (L2.defBody (ht 18)),L2.defScope (ht 18),0,[],.none,.none,.none,.none,none,.none,.none,0⟩),#[]⟩
def o129_5 (P:Params):Obj:=⟨(.type "code"),none,(.fields #[(.str x216 391),(.str x216 392),(.str x164 393),(HD.i 50),(HD.i 1),(HD.i 0),(HD.i 0),(HD.i 3),(.ref 124),(.bool true),(HD.i 181),(.ref 125),.none,(.ref 126),(.ref 127),(.ref 128),(HD.i 395),(HD.i 50),(.str x164 396)]),#[]⟩
def o130_5 (P:Params):Obj:=⟨(.type "function"),none,(.func ⟨x216,x216,L2.defArgs (ht 18),.stmts (L2.defBody (ht 18)),L2.defScope (ht 18),3,[],.none,.none,.none,(.str x183 267),none,(.ref 129),.none,0⟩),#[]⟩
def o131_5 (P:Params):Obj:=⟨(.type "tuple"),none,(.seq #[] 0),#[]⟩
def o132_5 (P:Params):Obj:=⟨.none,none,(.fields #[]),#[]⟩
def o133_5 (P:Params):Obj:=⟨.none,none,(.func ⟨x218,x218,L2.defArgs (ht 20),.stmts (L2.defBody (ht 20)),L2.defScope (ht 20),0,[],.none,.none,.none,.none,none,.none,.none,0⟩),#[]⟩
def o134_5 (P:Params):Obj:=⟨(.type "code"),none,(.fields #[(.str x218 400),(.str x218 401),(.str x164 402),(HD.i 55),(HD.i 1),(HD.i 0),(HD.i 0),(HD.i 3),(.ref 131),(.bool true),(HD.i 181),(.ref 132),.none,.none,.none,(.ref 133),(HD.i 403),(HD.i 55),(.str x164 404)]),#[]⟩
def o135_5 (P:Params):Obj:=⟨(.type "function"),none,(.func ⟨x218,x218,L2.defArgs (ht 20),.stmts (L2.defBody (ht 20)),L2.defScope (ht 20),3,[],.none,.none,.none,(.str x217 398),none,(.ref 134),.none,0⟩),#[]⟩
def g5:List Stmt:=[ht 13,ht 14,ht 15,ht 16,ht 17,ht 18,ht 19,ht 20,ht 21,ht 22,ht 23]
def T5 (P:Params):BT:=((((((((((((((((((((((((((((((((((((((T4 P).ins (nat_lit 3) (o3_5 P)).ins (nat_lit 12) (o12_5 P)).ins (nat_lit 101) (o101_5 P)).ins (nat_lit 102) (o102_5 P)).ins (nat_lit 103) (o103_5 P)).ins (nat_lit 104) (o104_5 P)).ins (nat_lit 105) (o105_5 P)).ins (nat_lit 106) (o106_5 P)).ins (nat_lit 107) (o107_5 P)).ins (nat_lit 108) (o108_5 P)).ins (nat_lit 109) (o109_5 P)).ins (nat_lit 110) (o110_5 P)).ins (nat_lit 111) (o111_5 P)).ins (nat_lit 112) (o112_5 P)).ins (nat_lit 113) (o113_5 P)).ins (nat_lit 114) (o114_5 P)).ins (nat_lit 115) (o115_5 P)).ins (nat_lit 116) (o116_5 P)).ins (nat_lit 117) (o117_5 P)).ins (nat_lit 118) (o118_5 P)).ins (nat_lit 119) (o119_5 P)).ins (nat_lit 120) (o120_5 P)).ins (nat_lit 121) (o121_5 P)).ins (nat_lit 122) (o122_5 P)).ins (nat_lit 123) (o123_5 P)).ins (nat_lit 124) (o124_5 P)).ins (nat_lit 125) (o125_5 P)).ins (nat_lit 126) (o126_5 P)).ins (nat_lit 127) (o127_5 P)).ins (nat_lit 128) (o128_5 P)).ins (nat_lit 129) (o129_5 P)).ins (nat_lit 130) (o130_5 P)).ins (nat_lit 131) (o131_5 P)).ins (nat_lit 132) (o132_5 P)).ins (nat_lit 133) (o133_5 P)).ins (nat_lit 134) (o134_5 P)).ins (nat_lit 135) (o135_5 P))
def lf5:Life:=⟨[],[],[],0,[],[],false,#[],[],0,false,false,false,(.ofNat 0),[(.ofNat 2000),(.ofNat 10),(.ofNat 10)],false,0,true,[],[],0,false⟩
abbrev S5 (w:World) (os:OsState):SharedT:=⟨T5 w.params,nat_lit 136,lf5,Array.mk [],⟨0,0,0,0⟩,nat_lit 412,os⟩
def q5f (w:World):(OsState→Option (Flow×SharedT×Code×Pos))×(OsState→Option (Flow×SharedT×Code×Pos)):=(fun os=>segRunT treeTable pw (w.withFollow "special-get-raises" false) (nat_lit 11) (some (.ref 6)) (nat_lit 1) (nat_lit 284) (S4 (w.withFollow "special-get-raises" false) os) (piecesOf g5 hE hC ⟨24,0,24,8⟩ hB),fun os=>some (Flow.next,S5 (w.withFollow "special-get-raises" false) os,hC,⟨60,0,60,11⟩))
theorem q5f_eq:(fun w:World=>HD.seg pw (nat_lit 11) (some (.ref 6)) (nat_lit 284) S4 S5 g5 hE hC ⟨24,0,24,8⟩ ⟨60,0,60,11⟩ hB (w.withFollow "special-get-raises" false))=q5f:=by kernel_rfl
name_quick YK555f for q5f by q5f_eq
theorem i5f (w:World):(Fast.YK555f w).1=(Fast.YK555f w).2:=by kernel_rfl
def q5t (w:World):(OsState→Option (Flow×SharedT×Code×Pos))×(OsState→Option (Flow×SharedT×Code×Pos)):=(fun os=>segRunT treeTable pw (w.withFollow "special-get-raises" true) (nat_lit 11) (some (.ref 6)) (nat_lit 1) (nat_lit 284) (S4 (w.withFollow "special-get-raises" true) os) (piecesOf g5 hE hC ⟨24,0,24,8⟩ hB),fun os=>some (Flow.next,S5 (w.withFollow "special-get-raises" true) os,hC,⟨60,0,60,11⟩))
theorem q5t_eq:(fun w:World=>HD.seg pw (nat_lit 11) (some (.ref 6)) (nat_lit 284) S4 S5 g5 hE hC ⟨24,0,24,8⟩ ⟨60,0,60,11⟩ hB (w.withFollow "special-get-raises" true))=q5t:=by kernel_rfl
name_quick YK555t for q5t by q5t_eq
theorem i5t (w:World):(Fast.YK555t w).1=(Fast.YK555t w).2:=by kernel_rfl
theorem h5:HD.Ok (HD.seg pw (nat_lit 11) (some (.ref 6)) (nat_lit 284) S4 S5 g5 hE hC ⟨24,0,24,8⟩ ⟨60,0,60,11⟩ hB):=HD.by2 "special-get-raises" Fast.YK555f_eq Fast.YK555t_eq i5f i5t
def o3_6 (P:Params):Obj:=⟨(.type "dict"),none,(.dict #[⟨(PyData.keyHash P x0),(.str x0 165),(.str x219 406)⟩,⟨(PyData.keyHash P x2),(.str x2 166),.none⟩,⟨(PyData.keyHash P x3),(.str x3 167),.none⟩,⟨(PyData.keyHash P x4),(.str x4 168),(.builtin "__main__.__loader__#opaque")⟩,⟨(PyData.keyHash P x5),(.str x5 169),.none⟩,⟨(PyData.keyHash P x161),(.str x161 170),(.ref 6)⟩,⟨(PyData.keyHash P x162),(.str x162 171),(.ref 4)⟩,⟨(PyData.keyHash P x163),(.str x163 173),(.str x164 172)⟩,⟨(PyData.keyHash P x165),(.str x165 174),.none⟩,⟨(PyData.keyHash P x167),(.str x167 193),(.ref 21)⟩,⟨(PyData.keyHash P x170),(.str x170 220),(.ref 38)⟩,⟨(PyData.keyHash P x179),(.str x179 243),(.ref 58)⟩,⟨(PyData.keyHash P x181),(.str x181 266),(.ref 77)⟩,⟨(PyData.keyHash P x184),(.str x184 270),(.int (.ofNat 600) 269)⟩,⟨(PyData.keyHash P x185),(.str x185 272),(.int (.ofNat 40) 271)⟩,⟨(PyData.keyHash P x186),(.str x186 274),(.int (.ofNat 99) 273)⟩,⟨(PyData.keyHash P x187),(.str x187 276),(.int (.ofNat 12) 275)⟩,⟨(PyData.keyHash P x188),(.str x188 278),(.str x189 277)⟩,⟨(PyData.keyHash P x190),(.str x190 284),(.ref 80)⟩,⟨(PyData.keyHash P x195),(.str x195 349),(.ref 81)⟩,⟨(PyData.keyHash P x210),(.str x210 365),(.ref 101)⟩,⟨(PyData.keyHash P x211),(.str x211 371),(.ref 106)⟩,⟨(PyData.keyHash P x212),(.str x212 377),(.ref 111)⟩,⟨(PyData.keyHash P x213),(.str x213 384),(.ref 118)⟩,⟨(PyData.keyHash P x215),(.str x215 390),(.ref 123)⟩,⟨(PyData.keyHash P x216),(.str x216 397),(.ref 130)⟩,⟨(PyData.keyHash P x218),(.str x218 405),(.ref 135)⟩,⟨(PyData.keyHash P x220),(.str x220 409),(.str x221 408)⟩,⟨(PyData.keyHash P x222),(.str x222 411),(.int (.ofNat 39) 410)⟩,⟨(PyData.keyHash P x223),(.str x223 474),(.ref 180)⟩,⟨(PyData.keyHash P x238),(.str x238 483),(.ref 191)⟩] 31),#[]⟩
def o12_6 (P:Params):Obj:=⟨.none,none,(.fields #[(HD.i 1),(HD.i 0),(.ref 20),(HD.i 5),(HD.i 0),(.ref 27),(HD.i 9),(HD.i 0),(.ref 47),(HD.i 13),(HD.i 0),(.ref 66),(HD.i 26),(HD.i 0),(.ref 105),(HD.i 30),(HD.i 0),(.ref 110),(HD.i 42),(HD.i 0),(.ref 117),(HD.i 46),(HD.i 0),(.ref 122),(HD.i 50),(HD.i 0),(.ref 129),(HD.i 55),(HD.i 0),(.ref 134),(HD.i 61),(HD.i 0),(.ref 141),(HD.i 86),(HD.i 0),(.ref 190)]),#[]⟩
def o136_6 (P:Params):Obj:=⟨(.type "tuple"),none,(.seq #[] 0),#[]⟩
def o137_6 (P:Params):Obj:=⟨(.type "builtin_function_or_method"),none,(.fields #[(.builtin "type.__prepare__"),(.type "type")]),#[]⟩
def o138_6 (P:Params):Obj:=⟨(.type "dict"),none,(.dict #[⟨(PyData.keyHash P x171),(.str x171 419),(.str x219 406)⟩,⟨(PyData.keyHash P x172),(.str x172 421),(.str x223 420)⟩,⟨(PyData.keyHash P x173),(.str x173 423),(.int (.ofNat 61) 422)⟩,⟨(PyData.keyHash P x224),(.str x224 433),(.ref 149)⟩,⟨(PyData.keyHash P x225),(.str x225 440),(.ref 156)⟩,⟨(PyData.keyHash P x226),(.str x226 447),(.ref 163)⟩,⟨(PyData.keyHash P x227),(.str x227 455),(.ref 170)⟩,⟨(PyData.keyHash P x228),(.str x228 462),(.ref 177)⟩,⟨(PyData.keyHash P x175),(.str x175 467),(.ref 178)⟩] 9),#[]⟩
def o139_6 (P:Params):Obj:=⟨(.type "tuple"),none,(.seq #[] 0),#[]⟩
def o140_6 (P:Params):Obj:=⟨.none,none,(.fields #[(HD.i 63),(HD.i 4),(.ref 148),(HD.i 69),(HD.i 4),(.ref 155),(HD.i 72),(HD.i 4),(.ref 162),(HD.i 75),(HD.i 4),(.ref 169),(HD.i 82),(HD.i 4),(.ref 176)]),#[]⟩
def o141_6 (P:Params):Obj:=⟨(.type "code"),none,(.fields #[(.str x223 414),(.str x223 415),(.str x164 416),(HD.i 61),(HD.i 0),(HD.i 0),(HD.i 0),(HD.i 0),(.ref 139),(.bool false),(HD.i 181),(.ref 140),.none,.none,.none,.none,(HD.i 417),(HD.i 61),(.str x164 418)]),#[]⟩
def o142_6 (P:Params):Obj:=⟨(.type "frame"),none,.plain,#[(some (.ref 141)),(some (.ref 3)),(some (.ref 138)),none,(some (.str x219 406)),none,(some (.ref 0))]⟩
def o143_6 (P:Params):Obj:=⟨(.type "tuple"),none,(.seq #[] 0),#[]⟩
def o144_6 (P:Params):Obj:=⟨.none,none,(.fields #[]),#[]⟩
def o145_6 (P:Params):Obj:=⟨(.type "tuple"),none,(.seq #[(.str x176 427),(.str x229 428),(.str x207 429),(.str x230 430)] 0),#[]⟩
def o146_6 (P:Params):Obj:=⟨(.type "tuple"),none,(.seq #[] 0),#[]⟩
def o147_6 (P:Params):Obj:=⟨.none,none,(.func ⟨x224,x231,L2.defArgs (L2.inClass (ht 24) 0),.stmts (L2.defBody (L2.inClass (ht 24) 0)),L2.defScope (L2.inClass (ht 24) 0),0,[],.none,.none,.none,.none,none,.none,.none,0⟩),#[]⟩
def o148_6 (P:Params):Obj:=⟨(.type "code"),none,(.fields #[(.str x224 424),(.str x231 425),(.str x164 426),(HD.i 63),(HD.i 4),(HD.i 0),(HD.i 0),(HD.i 3),(.ref 143),(.bool true),(HD.i 181),(.ref 144),.none,(.ref 145),(.ref 146),(.ref 147),(HD.i 431),(HD.i 63),(.str x164 432)]),#[]⟩
def o149_6 (P:Params):Obj:=⟨(.type "function"),none,(.func ⟨x224,x231,L2.defArgs (L2.inClass (ht 24) 0),.stmts (L2.defBody (L2.inClass (ht 24) 0)),L2.defScope (L2.inClass (ht 24) 0),3,[],.none,.none,.none,(.str x219 406),none,(.ref 148),.none,0⟩),#[]⟩
def o150_6 (P:Params):Obj:=⟨(.type "tuple"),none,(.seq #[] 0),#[]⟩
def o151_6 (P:Params):Obj:=⟨.none,none,(.fields #[]),#[]⟩
def o152_6 (P:Params):Obj:=⟨(.type "tuple"),none,(.seq #[(.str x176 437)] 0),#[]⟩
def o153_6 (P:Params):Obj:=⟨(.type "tuple"),none,(.seq #[] 0),#[]⟩
def o154_6 (P:Params):Obj:=⟨.none,none,(.func ⟨x225,x232,L2.defArgs (L2.inClass (ht 24) 1),.stmts (L2.defBody (L2.inClass (ht 24) 1)),L2.defScope (L2.inClass (ht 24) 1),0,[],.none,.none,.none,.none,none,.none,.none,0⟩),#[]⟩
def o155_6 (P:Params):Obj:=⟨(.type "code"),none,(.fields #[(.str x225 434),(.str x232 435),(.str x164 436),(HD.i 69),(HD.i 1),(HD.i 0),(HD.i 0),(HD.i 3),(.ref 150),(.bool true),(HD.i 181),(.ref 151),.none,(.ref 152),(.ref 153),(.ref 154),(HD.i 438),(HD.i 69),(.str x164 439)]),#[]⟩
def o156_6 (P:Params):Obj:=⟨(.type "function"),none,(.func ⟨x225,x232,L2.defArgs (L2.inClass (ht 24) 1),.stmts (L2.defBody (L2.inClass (ht 24) 1)),L2.defScope (L2.inClass (ht 24) 1),3,[],.none,.none,.none,(.str x219 406),none,(.ref 155),.none,0⟩),#[]⟩
def o157_6 (P:Params):Obj:=⟨(.type "tuple"),none,(.seq #[] 0),#[]⟩
def o158_6 (P:Params):Obj:=⟨.none,none,(.fields #[]),#[]⟩
def o159_6 (P:Params):Obj:=⟨(.type "tuple"),none,(.seq #[(.str x176 444)] 0),#[]⟩
def o160_6 (P:Params):Obj:=⟨(.type "tuple"),none,(.seq #[] 0),#[]⟩
def o161_6 (P:Params):Obj:=⟨.none,none,(.func ⟨x226,x233,L2.defArgs (L2.inClass (ht 24) 2),.stmts (L2.defBody (L2.inClass (ht 24) 2)),L2.defScope (L2.inClass (ht 24) 2),0,[],.none,.none,.none,.none,none,.none,.none,0⟩),#[]⟩
def o162_6 (P:Params):Obj:=⟨(.type "code"),none,(.fields #[(.str x226 441),(.str x233 442),(.str x164 443),(HD.i 72),(HD.i 1),(HD.i 0),(HD.i 0),(HD.i 3),(.ref 157),(.bool true),(HD.i 181),(.ref 158),.none,(.ref 159),(.ref 160),(.ref 161),(HD.i 445),(HD.i 72),(.str x164 446)]),#[]⟩
def o163_6 (P:Params):Obj:=⟨(.type "function"),none,(.func ⟨x226,x233,L2.defArgs (L2.inClass (ht 24) 2),.stmts (L2.defBody (L2.inClass (ht 24) 2)),L2.defScope (L2.inClass (ht 24) 2),3,[],.none,.none,.none,(.str x219 406),none,(.ref 162),.none,0⟩),#[]⟩
def o164_6 (P:Params):Obj:=⟨(.type "tuple"),none,(.seq #[] 0),#[]⟩
def o165_6 (P:Params):Obj:=⟨.none,none,(.fields #[]),#[]⟩
def o166_6 (P:Params):Obj:=⟨(.type "tuple"),none,(.seq #[(.str x176 451),(.str x214 452)] 0),#[]⟩
def o167_6 (P:Params):Obj:=⟨(.type "tuple"),none,(.seq #[] 0),#[]⟩
def o168_6 (P:Params):Obj:=⟨.none,none,(.func ⟨x227,x234,L2.defArgs (L2.inClass (ht 24) 3),.stmts (L2.defBody (L2.inClass (ht 24) 3)),L2.defScope (L2.inClass (ht 24) 3),0,[],.none,.none,.none,.none,none,.none,.none,0⟩),#[]⟩
def o169_6 (P:Params):Obj:=⟨(.type "code"),none,(.fields #[(.str x227 448),(.str x234 449),(.str x164 450),(HD.i 75),(HD.i 2),(HD.i 0),(HD.i 0),(HD.i 3),(.ref 164),(.bool true),(HD.i 181),(.ref 165),.none,(.ref 166),(.ref 167),(.ref 168),(HD.i 453),(HD.i 75),(.str x164 454)]),#[]⟩
def o170_6 (P:Params):Obj:=⟨(.type "function"),none,(.func ⟨x227,x234,L2.defArgs (L2.inClass (ht 24) 3),.stmts (L2.defBody (L2.inClass (ht 24) 3)),L2.defScope (L2.inClass (ht 24) 3),3,[],.none,.none,.none,(.str x219 406),none,(.ref 169),.none,0⟩),#[]⟩
def o171_6 (P:Params):Obj:=⟨(.type "tuple"),none,(.seq #[] 0),#[]⟩
def o172_6 (P:Params):Obj:=⟨.none,none,(.fields #[]),#[]⟩
def o173_6 (P:Params):Obj:=⟨(.type "tuple"),none,(.seq #[(.str x176 459)] 0),#[]⟩
def o174_6 (P:Params):Obj:=⟨(.type "tuple"),none,(.seq #[] 0),#[]⟩
def o175_6 (P:Params):Obj:=⟨.none,none,(.func ⟨x228,x235,L2.defArgs (L2.inClass (ht 24) 4),.stmts (L2.defBody (L2.inClass (ht 24) 4)),L2.defScope (L2.inClass (ht 24) 4),0,[],.none,.none,.none,.none,none,.none,.none,0⟩),#[]⟩
def o176_6 (P:Params):Obj:=⟨(.type "code"),none,(.fields #[(.str x228 456),(.str x235 457),(.str x164 458),(HD.i 82),(HD.i 1),(HD.i 0),(HD.i 0),(HD.i 3),(.ref 171),(.bool true),(HD.i 181),(.ref 172),.none,(.ref 173),(.ref 174),(.ref 175),(HD.i 460),(HD.i 82),(.str x164 461)]),#[]⟩
def o177_6 (P:Params):Obj:=⟨(.type "function"),none,(.func ⟨x228,x235,L2.defArgs (L2.inClass (ht 24) 4),.stmts (L2.defBody (L2.inClass (ht 24) 4)),L2.defScope (L2.inClass (ht 24) 4),3,[],.none,.none,.none,(.str x219 406),none,(.ref 176),.none,0⟩),#[]⟩
def o178_6 (P:Params):Obj:=⟨(.type "tuple"),none,(.seq #[(.str x230 463),(.str x207 464),(.str x236 465),(.str x229 466)] 0),#[]⟩
def o179_6 (P:Params):Obj:=⟨(.type "dict"),none,(.dict #[⟨(PyData.keyHash P x171),(.str x171 419),(.str x219 406)⟩,⟨(PyData.keyHash P x173),(.str x173 423),(.int (.ofNat 61) 422)⟩,⟨(PyData.keyHash P x224),(.str x224 433),(.ref 149)⟩,⟨(PyData.keyHash P x225),(.str x225 440),(.ref 156)⟩,⟨(PyData.keyHash P x226),(.str x226 447),(.ref 163)⟩,⟨(PyData.keyHash P x227),(.str x227 455),(.ref 170)⟩,⟨(PyData.keyHash P x228),(.str x228 462),(.ref 177)⟩,⟨(PyData.keyHash P x175),(.str x175 467),(.ref 178)⟩,⟨(PyData.keyHash P x237),(.str x237 469),(.ref 181)⟩,⟨(PyData.keyHash P x178),(.str x178 471),(.ref 182)⟩,⟨(PyData.keyHash P x2),(.str x2 472),.none⟩] 4),#[]⟩
def o180_6 (P:Params):Obj:=⟨(.type "type"),none,(.cls ⟨x223,[(.type "object")],[(.ref 180),(.type "object")],179,x223,true,[],[],false,none,false⟩),#[none,none,(some (.str x223 412)),(some (.str x223 420)),(some (.builtin "object.__new__")),(some (.bool true))]⟩
def o181_6 (P:Params):Obj:=⟨(.type "getset_descriptor"),none,(.fields #[(.str x237 468),(.ref 180),(.builtin "function.__dict__"),(.builtin "function.__dict__#set")]),#[]⟩
def o182_6 (P:Params):Obj:=⟨(.type "getset_descriptor"),none,(.fields #[(.str x178 470),(.ref 180),(.builtin "ExceptionGroup.__weakref__"),.none]),#[]⟩
def o183_6 (P:Params):Obj:=⟨(.type "super"),none,(.fields #[(.ref 180),(.ref 180),(.ref 180)]),#[]⟩
def o184_6 (P:Params):Obj:=⟨(.type "builtin_function_or_method"),none,(.fields #[(.builtin "object.__init_subclass__"),(.ref 180)]),#[]⟩
def o185_6 (P:Params):Obj:=⟨(.type "tuple"),none,(.seq #[] 0),#[]⟩
def o186_6 (P:Params):Obj:=⟨.none,none,(.fields #[]),#[]⟩
def o187_6 (P:Params):Obj:=⟨(.type "tuple"),none,(.seq #[(.str x239 478),(.str x229 479),(.str x230 480)] 0),#[]⟩
def o188_6 (P:Params):Obj:=⟨(.type "tuple"),none,(.seq #[] 0),#[]⟩
def o189_6 (P:Params):Obj:=⟨.none,none,(.func ⟨x238,x238,L2.defArgs (ht 25),.stmts (L2.defBody (ht 25)),L2.defScope (ht 25),0,[],.none,.none,.none,.none,none,.none,.none,0⟩),#[]⟩
def o190_6 (P:Params):Obj:=⟨(.type "code"),none,(.fields #[(.str x238 475),(.str x238 476),(.str x164 477),(HD.i 86),(HD.i 1),(HD.i 0),(HD.i 0),(HD.i 3),(.ref 185),(.bool true),(HD.i 181),(.ref 186),.none,(.ref 187),(.ref 188),(.ref 189),(HD.i 481),(HD.i 86),(.str x164 482)]),#[]⟩
def o191_6 (P:Params):Obj:=⟨(.type "function"),none,(.func ⟨x238,x238,L2.defArgs (ht 25),.stmts (L2.defBody (ht 25)),L2.defScope (ht 25),3,[],.none,.none,.none,(.str x219 406),none,(.ref 190),.none,0⟩),#[]⟩
def g6:List Stmt:=[ht 24,ht 25]
def T6 (P:Params):BT:=(((((((((((((((((((((((((((((((((((((((((((((((((((((((((((T5 P).ins (nat_lit 3) (o3_6 P)).ins (nat_lit 12) (o12_6 P)).ins (nat_lit 136) (o136_6 P)).ins (nat_lit 137) (o137_6 P)).ins (nat_lit 138) (o138_6 P)).ins (nat_lit 139) (o139_6 P)).ins (nat_lit 140) (o140_6 P)).ins (nat_lit 141) (o141_6 P)).ins (nat_lit 142) (o142_6 P)).ins (nat_lit 143) (o143_6 P)).ins (nat_lit 144) (o144_6 P)).ins (nat_lit 145) (o145_6 P)).ins (nat_lit 146) (o146_6 P)).ins (nat_lit 147) (o147_6 P)).ins (nat_lit 148) (o148_6 P)).ins (nat_lit 149) (o149_6 P)).ins (nat_lit 150) (o150_6 P)).ins (nat_lit 151) (o151_6 P)).ins (nat_lit 152) (o152_6 P)).ins (nat_lit 153) (o153_6 P)).ins (nat_lit 154) (o154_6 P)).ins (nat_lit 155) (o155_6 P)).ins (nat_lit 156) (o156_6 P)).ins (nat_lit 157) (o157_6 P)).ins (nat_lit 158) (o158_6 P)).ins (nat_lit 159) (o159_6 P)).ins (nat_lit 160) (o160_6 P)).ins (nat_lit 161) (o161_6 P)).ins (nat_lit 162) (o162_6 P)).ins (nat_lit 163) (o163_6 P)).ins (nat_lit 164) (o164_6 P)).ins (nat_lit 165) (o165_6 P)).ins (nat_lit 166) (o166_6 P)).ins (nat_lit 167) (o167_6 P)).ins (nat_lit 168) (o168_6 P)).ins (nat_lit 169) (o169_6 P)).ins (nat_lit 170) (o170_6 P)).ins (nat_lit 171) (o171_6 P)).ins (nat_lit 172) (o172_6 P)).ins (nat_lit 173) (o173_6 P)).ins (nat_lit 174) (o174_6 P)).ins (nat_lit 175) (o175_6 P)).ins (nat_lit 176) (o176_6 P)).ins (nat_lit 177) (o177_6 P)).ins (nat_lit 178) (o178_6 P)).ins (nat_lit 179) (o179_6 P)).ins (nat_lit 180) (o180_6 P)).ins (nat_lit 181) (o181_6 P)).ins (nat_lit 182) (o182_6 P)).ins (nat_lit 183) (o183_6 P)).ins (nat_lit 184) (o184_6 P)).ins (nat_lit 185) (o185_6 P)).ins (nat_lit 186) (o186_6 P)).ins (nat_lit 187) (o187_6 P)).ins (nat_lit 188) (o188_6 P)).ins (nat_lit 189) (o189_6 P)).ins (nat_lit 190) (o190_6 P)).ins (nat_lit 191) (o191_6 P))
def lf6:Life:=⟨[],[],[],0,[],[],false,#[],[],0,false,false,false,(.ofNat 0),[(.ofNat 2000),(.ofNat 10),(.ofNat 10)],false,0,true,[],[],0,false⟩
abbrev S6 (w:World) (os:OsState):SharedT:=⟨T6 w.params,nat_lit 192,lf6,Array.mk [],⟨0,0,0,0⟩,nat_lit 484,os⟩
def q6 (w:World):(OsState→Option (Flow×SharedT×Code×Pos))×(OsState→Option (Flow×SharedT×Code×Pos)):=(fun os=>segRunT treeTable pw w (nat_lit 11) (some (.ref 6)) (nat_lit 1) (nat_lit 384) (S5 w os) (piecesOf g6 hE hC ⟨60,0,60,11⟩ hB),fun os=>some (Flow.next,S6 w os,hC,⟨86,0,95,35⟩))
theorem q6_eq:HD.seg pw (nat_lit 11) (some (.ref 6)) (nat_lit 384) S5 S6 g6 hE hC ⟨60,0,60,11⟩ ⟨86,0,95,35⟩ hB=q6:=by kernel_rfl
name_quick YK556 for q6 by q6_eq
theorem i6 (w:World):(Fast.YK556 w).1=(Fast.YK556 w).2:=by kernel_rfl
theorem h6:HD.Ok (HD.seg pw (nat_lit 11) (some (.ref 6)) (nat_lit 384) S5 S6 g6 hE hC ⟨60,0,60,11⟩ ⟨86,0,95,35⟩ hB):=HD.by1 Fast.YK556_eq i6
def o3_7 (P:Params):Obj:=⟨(.type "dict"),none,(.dict #[⟨(PyData.keyHash P x0),(.str x0 165),(.str x256 543)⟩,⟨(PyData.keyHash P x2),(.str x2 166),.none⟩,⟨(PyData.keyHash P x3),(.str x3 167),.none⟩,⟨(PyData.keyHash P x4),(.str x4 168),(.builtin "__main__.__loader__#opaque")⟩,⟨(PyData.keyHash P x5),(.str x5 169),.none⟩,⟨(PyData.keyHash P x161),(.str x161 170),(.ref 6)⟩,⟨(PyData.keyHash P x162),(.str x162 171),(.ref 4)⟩,⟨(PyData.keyHash P x163),(.str x163 173),(.str x164 172)⟩,⟨(PyData.keyHash P x165),(.str x165 174),.none⟩,⟨(PyData.keyHash P x167),(.str x167 193),(.ref 21)⟩,⟨(PyData.keyHash P x170),(.str x170 220),(.ref 38)⟩,⟨(PyData.keyHash P x179),(.str x179 243),(.ref 58)⟩,⟨(PyData.keyHash P x181),(.str x181 266),(.ref 77)⟩,⟨(PyData.keyHash P x184),(.str x184 270),(.int (.ofNat 600) 269)⟩,⟨(PyData.keyHash P x185),(.str x185 272),(.int (.ofNat 40) 271)⟩,⟨(PyData.keyHash P x186),(.str x186 274),(.int (.ofNat 99) 273)⟩,⟨(PyData.keyHash P x187),(.str x187 276),(.int (.ofNat 12) 275)⟩,⟨(PyData.keyHash P x188),(.str x188 278),(.str x189 277)⟩,⟨(PyData.keyHash P x190),(.str x190 284),(.ref 80)⟩,⟨(PyData.keyHash P x195),(.str x195 349),(.ref 81)⟩,⟨(PyData.keyHash P x210),(.str x210 365),(.ref 101)⟩,⟨(PyData.keyHash P x211),(.str x211 371),(.ref 106)⟩,⟨(PyData.keyHash P x212),(.str x212 377),(.ref 111)⟩,⟨(PyData.keyHash P x213),(.str x213 384),(.ref 118)⟩,⟨(PyData.keyHash P x215),(.str x215 390),(.ref 123)⟩,⟨(PyData.keyHash P x216),(.str x216 397),(.ref 130)⟩,⟨(PyData.keyHash P x218),(.str x218 405),(.ref 135)⟩,⟨(PyData.keyHash P x220),(.str x220 409),(.str x221 408)⟩,⟨(PyData.keyHash P x222),(.str x222 411),(.int (.ofNat 39) 410)⟩,⟨(PyData.keyHash P x223),(.str x223 474),(.ref 180)⟩,⟨(PyData.keyHash P x238),(.str x238 483),(.ref 191)⟩,⟨(PyData.keyHash P x240),(.str x240 494),(.ref 198)⟩,⟨(PyData.keyHash P x245),(.str x245 500),(.ref 203)⟩,⟨(PyData.keyHash P x246),(.str x246 509),(.ref 210)⟩,⟨(PyData.keyHash P x249),(.str x249 518),(.ref 217)⟩,⟨(PyData.keyHash P x250),(.str x250 534),(.ref 224)⟩,⟨(PyData.keyHash P x255),(.str x255 542),(.ref 231)⟩,⟨(PyData.keyHash P x257),(.str x257 552),(.ref 238)⟩,⟨(PyData.keyHash P x260),(.str x260 561),(.ref 245)⟩,⟨(PyData.keyHash P x264),(.str x264 573),(.ref 252)⟩,⟨(PyData.keyHash P x269),(.str x269 585),(.ref 259)⟩,⟨(PyData.keyHash P x271),(.str x271 597),(.ref 266)⟩,⟨(PyData.keyHash P x275),(.str x275 606),(.ref 273)⟩] 43),#[]⟩
def o12_7 (P:Params):Obj:=⟨.none,none,(.fields #[(HD.i 1),(HD.i 0),(.ref 20),(HD.i 5),(HD.i 0),(.ref 27),(HD.i 9),(HD.i 0),(.ref 47),(HD.i 13),(HD.i 0),(.ref 66),(HD.i 26),(HD.i 0),(.ref 105),(HD.i 30),(HD.i 0),(.ref 110),(HD.i 42),(HD.i 0),(.ref 117),(HD.i 46),(HD.i 0),(.ref 122),(HD.i 50),(HD.i 0),(.ref 129),(HD.i 55),(HD.i 0),(.ref 134),(HD.i 61),(HD.i 0),(.ref 141),(HD.i 86),(HD.i 0),(.ref 190),(HD.i 96),(HD.i 0),(.ref 197),(HD.i 106),(HD.i 0),(.ref 202),(HD.i 110),(HD.i 0),(.ref 209),(HD.i 115),(HD.i 0),(.ref 216),(HD.i 123),(HD.i 0),(.ref 223),(HD.i 145),(HD.i 0),(.ref 230),(HD.i 148),(HD.i 0),(.ref 237),(HD.i 152),(HD.i 0),(.ref 244),(HD.i 161),(HD.i 0),(.ref 251),(HD.i 173),(HD.i 0),(.ref 258),(HD.i 181),(HD.i 0),(.ref 265),(HD.i 191),(HD.i 0),(.ref 272)]),#[]⟩
def o192_7 (P:Params):Obj:=⟨(.type "tuple"),none,(.seq #[] 0),#[]⟩
def o193_7 (P:Params):Obj:=⟨.none,none,(.fields #[]),#[]⟩
def o194_7 (P:Params):Obj:=⟨(.type "tuple"),none,(.seq #[(.str x229 487),(.str x241 488),(.str x242 489),(.str x243 490),(.str x244 491)] 0),#[]⟩
def o195_7 (P:Params):Obj:=⟨(.type "tuple"),none,(.seq #[] 0),#[]⟩
def o196_7 (P:Params):Obj:=⟨.none,none,(.func ⟨x240,x240,L2.defArgs (ht 26),.stmts (L2.defBody (ht 26)),L2.defScope (ht 26),0,[],.none,.none,.none,.none,none,.none,.none,0⟩),#[]⟩
def o197_7 (P:Params):Obj:=⟨(.type "code"),none,(.fields #[(.str x240 484),(.str x240 485),(.str x164 486),(HD.i 96),(HD.i 3),(HD.i 0),(HD.i 0),(HD.i 3),(.ref 192),(.bool true),(HD.i 181),(.ref 193),.none,(.ref 194),(.ref 195),(.ref 196),(HD.i 492),(HD.i 96),(.str x164 493)]),#[]⟩
def o198_7 (P:Params):Obj:=⟨(.type "function"),none,(.func ⟨x240,x240,L2.defArgs (ht 26),.stmts (L2.defBody (ht 26)),L2.defScope (ht 26),3,[],.none,.none,.none,(.str x219 406),none,(.ref 197),.none,0⟩),#[]⟩
def o199_7 (P:Params):Obj:=⟨(.type "tuple"),none,(.seq #[] 0),#[]⟩
def o200_7 (P:Params):Obj:=⟨.none,none,(.fields #[]),#[]⟩
def o201_7 (P:Params):Obj:=⟨.none,none,(.func ⟨x245,x245,L2.defArgs (ht 27),.stmts (L2.defBody (ht 27)),L2.defScope (ht 27),0,[],.none,.none,.none,.none,none,.none,.none,0⟩),#[]⟩
def o202_7 (P:Params):Obj:=⟨(.type "code"),none,(.fields #[(.str x245 495),(.str x245 496),(.str x164 497),(HD.i 106),(HD.i 1),(HD.i 0),(HD.i 0),(HD.i 3),(.ref 199),(.bool true),(HD.i 181),(.ref 200),.none,.none,.none,(.ref 201),(HD.i 498),(HD.i 106),(.str x164 499)]),#[]⟩
def o203_7 (P:Params):Obj:=⟨(.type "function"),none,(.func ⟨x245,x245,L2.defArgs (ht 27),.stmts (L2.defBody (ht 27)),L2.defScope (ht 27),3,[],.none,.none,.none,(.str x219 406),none,(.ref 202),.none,0⟩),#[]⟩
def o204_7 (P:Params):Obj:=⟨(.type "tuple"),none,(.seq #[] 0),#[]⟩
def o205_7 (P:Params):Obj:=⟨.none,none,(.fields #[]),#[]⟩
def o206_7 (P:Params):Obj:=⟨(.type "tuple"),none,(.seq #[(.str x247 504),(.str x214 505),(.str x248 506)] 0),#[]⟩
def o207_7 (P:Params):Obj:=⟨(.type "tuple"),none,(.seq #[] 0),#[]⟩
def o208_7 (P:Params):Obj:=⟨.none,none,(.func ⟨x246,x246,L2.defArgs (ht 28),.stmts (L2.defBody (ht 28)),L2.defScope (ht 28),0,[],.none,.none,.none,.none,none,.none,.none,0⟩),#[]⟩
def o209_7 (P:Params):Obj:=⟨(.type "code"),none,(.fields #[(.str x246 501),(.str x246 502),(.str x164 503),(HD.i 110),(HD.i 1),(HD.i 0),(HD.i 0),(HD.i 3),(.ref 204),(.bool true),(HD.i 181),(.ref 205),.none,(.ref 206),(.ref 207),(.ref 208),(HD.i 507),(HD.i 110),(.str x164 508)]),#[]⟩
def o210_7 (P:Params):Obj:=⟨(.type "function"),none,(.func ⟨x246,x246,L2.defArgs (ht 28),.stmts (L2.defBody (ht 28)),L2.defScope (ht 28),3,[],.none,.none,.none,(.str x219 406),none,(.ref 209),.none,0⟩),#[]⟩
def o211_7 (P:Params):Obj:=⟨(.type "tuple"),none,(.seq #[] 0),#[]⟩
def o212_7 (P:Params):Obj:=⟨.none,none,(.fields #[]),#[]⟩
def o213_7 (P:Params):Obj:=⟨(.type "tuple"),none,(.seq #[(.str x229 513),(.str x241 514),(.str x242 515)] 0),#[]⟩
def o214_7 (P:Params):Obj:=⟨(.type "tuple"),none,(.seq #[] 0),#[]⟩
def o215_7 (P:Params):Obj:=⟨.none,none,(.func ⟨x249,x249,L2.defArgs (ht 29),.stmts (L2.defBody (ht 29)),L2.defScope (ht 29),0,[],.none,.none,.none,.none,none,.none,.none,0⟩),#[]⟩
def o216_7 (P:Params):Obj:=⟨(.type "code"),none,(.fields #[(.str x249 510),(.str x249 511),(.str x164 512),(HD.i 115),(HD.i 3),(HD.i 0),(HD.i 0),(HD.i 3),(.ref 211),(.bool true),(HD.i 181),(.ref 212),.none,(.ref 213),(.ref 214),(.ref 215),(HD.i 516),(HD.i 115),(.str x164 517)]),#[]⟩
def o217_7 (P:Params):Obj:=⟨(.type "function"),none,(.func ⟨x249,x249,L2.defArgs (ht 29),.stmts (L2.defBody (ht 29)),L2.defScope (ht 29),3,[],.none,.none,.none,(.str x219 406),none,(.ref 216),.none,0⟩),#[]⟩
def o218_7 (P:Params):Obj:=⟨(.type "tuple"),none,(.seq #[] 0),#[]⟩
def o219_7 (P:Params):Obj:=⟨.none,none,(.fields #[]),#[]⟩
def o220_7 (P:Params):Obj:=⟨(.type "tuple"),none,(.seq #[(.str x251 522),(.str x242 523),(.str x230 524),(.str x252 525),(.str x253 526),(.str x241 527),(.str x254 528),(.str x229 529),(.str x244 530),(.str x228 531)] 0),#[]⟩
def o221_7 (P:Params):Obj:=⟨(.type "tuple"),none,(.seq #[] 0),#[]⟩
def o222_7 (P:Params):Obj:=⟨.none,none,(.func ⟨x250,x250,L2.defArgs (ht 30),.stmts (L2.defBody (ht 30)),L2.defScope (ht 30),0,[],.none,.none,.none,.none,none,.none,.none,0⟩),#[]⟩
def o223_7 (P:Params):Obj:=⟨(.type "code"),none,(.fields #[(.str x250 519),(.str x250 520),(.str x164 521),(HD.i 123),(HD.i 3),(HD.i 0),(HD.i 0),(HD.i 3),(.ref 218),(.bool true),(HD.i 181),(.ref 219),.none,(.ref 220),(.ref 221),(.ref 222),(HD.i 532),(HD.i 123),(.str x164 533)]),#[]⟩
def o224_7 (P:Params):Obj:=⟨(.type "function"),none,(.func ⟨x250,x250,L2.defArgs (ht 30),.stmts (L2.defBody (ht 30)),L2.defScope (ht 30),3,[],.none,.none,.none,(.str x219 406),none,(.ref 223),.none,0⟩),#[]⟩
def o225_7 (P:Params):Obj:=⟨(.type "tuple"),none,(.seq #[] 0),#[]⟩
def o226_7 (P:Params):Obj:=⟨.none,none,(.fields #[]),#[]⟩
def o227_7 (P:Params):Obj:=⟨(.type "tuple"),none,(.seq #[(.str x251 538),(.str x242 539)] 0),#[]⟩
def o228_7 (P:Params):Obj:=⟨(.type "tuple"),none,(.seq #[] 0),#[]⟩
def o229_7 (P:Params):Obj:=⟨.none,none,(.func ⟨x255,x255,L2.defArgs (ht 31),.stmts (L2.defBody (ht 31)),L2.defScope (ht 31),0,[],.none,.none,.none,.none,none,.none,.none,0⟩),#[]⟩
def o230_7 (P:Params):Obj:=⟨(.type "code"),none,(.fields #[(.str x255 535),(.str x255 536),(.str x164 537),(HD.i 145),(HD.i 2),(HD.i 0),(HD.i 0),(HD.i 3),(.ref 225),(.bool true),(HD.i 181),(.ref 226),.none,(.ref 227),(.ref 228),(.ref 229),(HD.i 540),(HD.i 145),(.str x164 541)]),#[]⟩
def o231_7 (P:Params):Obj:=⟨(.type "function"),none,(.func ⟨x255,x255,L2.defArgs (ht 31),.stmts (L2.defBody (ht 31)),L2.defScope (ht 31),3,[],.none,.none,.none,(.str x219 406),none,(.ref 230),.none,0⟩),#[]⟩
def o232_7 (P:Params):Obj:=⟨(.type "tuple"),none,(.seq #[] 0),#[]⟩
def o233_7 (P:Params):Obj:=⟨.none,none,(.fields #[]),#[]⟩
def o234_7 (P:Params):Obj:=⟨(.type "tuple"),none,(.seq #[(.str x258 548),(.str x259 549)] 0),#[]⟩
def o235_7 (P:Params):Obj:=⟨(.type "tuple"),none,(.seq #[] 0),#[]⟩
def o236_7 (P:Params):Obj:=⟨.none,none,(.func ⟨x257,x257,L2.defArgs (ht 33),.stmts (L2.defBody (ht 33)),L2.defScope (ht 33),0,[],.none,.none,.none,.none,none,.none,.none,0⟩),#[]⟩
def o237_7 (P:Params):Obj:=⟨(.type "code"),none,(.fields #[(.str x257 545),(.str x257 546),(.str x164 547),(HD.i 148),(HD.i 2),(HD.i 0),(HD.i 0),(HD.i 3),(.ref 232),(.bool true),(HD.i 181),(.ref 233),.none,(.ref 234),(.ref 235),(.ref 236),(HD.i 550),(HD.i 148),(.str x164 551)]),#[]⟩
def o238_7 (P:Params):Obj:=⟨(.type "function"),none,(.func ⟨x257,x257,L2.defArgs (ht 33),.stmts (L2.defBody (ht 33)),L2.defScope (ht 33),3,[],.none,.none,.none,(.str x256 543),none,(.ref 237),.none,0⟩),#[]⟩
def o239_7 (P:Params):Obj:=⟨(.type "tuple"),none,(.seq #[] 0),#[]⟩
def o240_7 (P:Params):Obj:=⟨.none,none,(.fields #[]),#[]⟩
def o241_7 (P:Params):Obj:=⟨(.type "tuple"),none,(.seq #[(.str x261 556),(.str x262 557),(.str x263 558)] 0),#[]⟩
def o242_7 (P:Params):Obj:=⟨(.type "tuple"),none,(.seq #[] 0),#[]⟩
def o243_7 (P:Params):Obj:=⟨.none,none,(.func ⟨x260,x260,L2.defArgs (ht 34),.stmts (L2.defBody (ht 34)),L2.defScope (ht 34),0,[],.none,.none,.none,.none,none,.none,.none,0⟩),#[]⟩
def o244_7 (P:Params):Obj:=⟨(.type "code"),none,(.fields #[(.str x260 553),(.str x260 554),(.str x164 555),(HD.i 152),(HD.i 2),(HD.i 0),(HD.i 0),(HD.i 3),(.ref 239),(.bool true),(HD.i 181),(.ref 240),.none,(.ref 241),(.ref 242),(.ref 243),(HD.i 559),(HD.i 152),(.str x164 560)]),#[]⟩
def o245_7 (P:Params):Obj:=⟨(.type "function"),none,(.func ⟨x260,x260,L2.defArgs (ht 34),.stmts (L2.defBody (ht 34)),L2.defScope (ht 34),3,[],.none,.none,.none,(.str x256 543),none,(.ref 244),.none,0⟩),#[]⟩
def o246_7 (P:Params):Obj:=⟨(.type "tuple"),none,(.seq #[] 0),#[]⟩
def o247_7 (P:Params):Obj:=⟨.none,none,(.fields #[]),#[]⟩
def o248_7 (P:Params):Obj:=⟨(.type "tuple"),none,(.seq #[(.str x265 565),(.str x266 566),(.str x261 567),(.str x267 568),(.str x268 569),(.str x259 570)] 0),#[]⟩
def o249_7 (P:Params):Obj:=⟨(.type "tuple"),none,(.seq #[] 0),#[]⟩
def o250_7 (P:Params):Obj:=⟨.none,none,(.func ⟨x264,x264,L2.defArgs (ht 35),.stmts (L2.defBody (ht 35)),L2.defScope (ht 35),0,[],.none,.none,.none,.none,none,.none,.none,0⟩),#[]⟩
def o251_7 (P:Params):Obj:=⟨(.type "code"),none,(.fields #[(.str x264 562),(.str x264 563),(.str x164 564),(HD.i 161),(HD.i 5),(HD.i 0),(HD.i 0),(HD.i 3),(.ref 246),(.bool true),(HD.i 181),(.ref 247),.none,(.ref 248),(.ref 249),(.ref 250),(HD.i 571),(HD.i 161),(.str x164 572)]),#[]⟩
def o252_7 (P:Params):Obj:=⟨(.type "function"),none,(.func ⟨x264,x264,L2.defArgs (ht 35),.stmts (L2.defBody (ht 35)),L2.defScope (ht 35),3,[],.none,.none,.none,(.str x256 543),none,(.ref 251),.none,0⟩),#[]⟩
def o253_7 (P:Params):Obj:=⟨(.type "tuple"),none,(.seq #[] 0),#[]⟩
def o254_7 (P:Params):Obj:=⟨.none,none,(.fields #[]),#[]⟩
def o255_7 (P:Params):Obj:=⟨(.type "tuple"),none,(.seq #[(.str x265 577),(.str x261 578),(.str x267 579),(.str x270 580),(.str x268 581),(.str x259 582)] 0),#[]⟩
def o256_7 (P:Params):Obj:=⟨(.type "tuple"),none,(.seq #[] 0),#[]⟩
def o257_7 (P:Params):Obj:=⟨.none,none,(.func ⟨x269,x269,L2.defArgs (ht 36),.stmts (L2.defBody (ht 36)),L2.defScope (ht 36),0,[],.none,.none,.none,.none,none,.none,.none,0⟩),#[]⟩
def o258_7 (P:Params):Obj:=⟨(.type "code"),none,(.fields #[(.str x269 574),(.str x269 575),(.str x164 576),(HD.i 173),(HD.i 5),(HD.i 0),(HD.i 0),(HD.i 3),(.ref 253),(.bool true),(HD.i 181),(.ref 254),.none,(.ref 255),(.ref 256),(.ref 257),(HD.i 583),(HD.i 173),(.str x164 584)]),#[]⟩
def o259_7 (P:Params):Obj:=⟨(.type "function"),none,(.func ⟨x269,x269,L2.defArgs (ht 36),.stmts (L2.defBody (ht 36)),L2.defScope (ht 36),3,[],.none,.none,.none,(.str x256 543),none,(.ref 258),.none,0⟩),#[]⟩
def o260_7 (P:Params):Obj:=⟨(.type "tuple"),none,(.seq #[] 0),#[]⟩
def o261_7 (P:Params):Obj:=⟨.none,none,(.fields #[]),#[]⟩
def o262_7 (P:Params):Obj:=⟨(.type "tuple"),none,(.seq #[(.str x272 589),(.str x273 590),(.str x274 591),(.str x261 592),(.str x267 593),(.str x259 594)] 0),#[]⟩
def o263_7 (P:Params):Obj:=⟨(.type "tuple"),none,(.seq #[] 0),#[]⟩
def o264_7 (P:Params):Obj:=⟨.none,none,(.func ⟨x271,x271,L2.defArgs (ht 37),.stmts (L2.defBody (ht 37)),L2.defScope (ht 37),0,[],.none,.none,.none,.none,none,.none,.none,0⟩),#[]⟩
def o265_7 (P:Params):Obj:=⟨(.type "code"),none,(.fields #[(.str x271 586),(.str x271 587),(.str x164 588),(HD.i 181),(HD.i 2),(HD.i 0),(HD.i 0),(HD.i 3),(.ref 260),(.bool true),(HD.i 181),(.ref 261),.none,(.ref 262),(.ref 263),(.ref 264),(HD.i 595),(HD.i 181),(.str x164 596)]),#[]⟩
def o266_7 (P:Params):Obj:=⟨(.type "function"),none,(.func ⟨x271,x271,L2.defArgs (ht 37),.stmts (L2.defBody (ht 37)),L2.defScope (ht 37),3,[],.none,.none,.none,(.str x256 543),none,(.ref 265),.none,0⟩),#[]⟩
def o267_7 (P:Params):Obj:=⟨(.type "tuple"),none,(.seq #[] 0),#[]⟩
def o268_7 (P:Params):Obj:=⟨.none,none,(.fields #[]),#[]⟩
def o269_7 (P:Params):Obj:=⟨(.type "tuple"),none,(.seq #[(.str x272 601),(.str x267 602),(.str x259 603)] 0),#[]⟩
def o270_7 (P:Params):Obj:=⟨(.type "tuple"),none,(.seq #[] 0),#[]⟩
def o271_7 (P:Params):Obj:=⟨.none,none,(.func ⟨x275,x275,L2.defArgs (ht 38),.stmts (L2.defBody (ht 38)),L2.defScope (ht 38),0,[],.none,.none,.none,.none,none,.none,.none,0⟩),#[]⟩
def o272_7 (P:Params):Obj:=⟨(.type "code"),none,(.fields #[(.str x275 598),(.str x275 599),(.str x164 600),(HD.i 191),(HD.i 1),(HD.i 0),(HD.i 0),(HD.i 3),(.ref 267),(.bool true),(HD.i 181),(.ref 268),.none,(.ref 269),(.ref 270),(.ref 271),(HD.i 604),(HD.i 191),(.str x164 605)]),#[]⟩
def o273_7 (P:Params):Obj:=⟨(.type "function"),none,(.func ⟨x275,x275,L2.defArgs (ht 38),.stmts (L2.defBody (ht 38)),L2.defScope (ht 38),3,[],.none,.none,.none,(.str x256 543),none,(.ref 272),.none,0⟩),#[]⟩
def g7:List Stmt:=[ht 26,ht 27,ht 28,ht 29,ht 30,ht 31,ht 32,ht 33,ht 34,ht 35,ht 36,ht 37,ht 38]
def T7 (P:Params):BT:=(((((((((((((((((((((((((((((((((((((((((((((((((((((((((((((((((((((((((((((((((((((T6 P).ins (nat_lit 3) (o3_7 P)).ins (nat_lit 12) (o12_7 P)).ins (nat_lit 192) (o192_7 P)).ins (nat_lit 193) (o193_7 P)).ins (nat_lit 194) (o194_7 P)).ins (nat_lit 195) (o195_7 P)).ins (nat_lit 196) (o196_7 P)).ins (nat_lit 197) (o197_7 P)).ins (nat_lit 198) (o198_7 P)).ins (nat_lit 199) (o199_7 P)).ins (nat_lit 200) (o200_7 P)).ins (nat_lit 201) (o201_7 P)).ins (nat_lit 202) (o202_7 P)).ins (nat_lit 203) (o203_7 P)).ins (nat_lit 204) (o204_7 P)).ins (nat_lit 205) (o205_7 P)).ins (nat_lit 206) (o206_7 P)).ins (nat_lit 207) (o207_7 P)).ins (nat_lit 208) (o208_7 P)).ins (nat_lit 209) (o209_7 P)).ins (nat_lit 210) (o210_7 P)).ins (nat_lit 211) (o211_7 P)).ins (nat_lit 212) (o212_7 P)).ins (nat_lit 213) (o213_7 P)).ins (nat_lit 214) (o214_7 P)).ins (nat_lit 215) (o215_7 P)).ins (nat_lit 216) (o216_7 P)).ins (nat_lit 217) (o217_7 P)).ins (nat_lit 218) (o218_7 P)).ins (nat_lit 219) (o219_7 P)).ins (nat_lit 220) (o220_7 P)).ins (nat_lit 221) (o221_7 P)).ins (nat_lit 222) (o222_7 P)).ins (nat_lit 223) (o223_7 P)).ins (nat_lit 224) (o224_7 P)).ins (nat_lit 225) (o225_7 P)).ins (nat_lit 226) (o226_7 P)).ins (nat_lit 227) (o227_7 P)).ins (nat_lit 228) (o228_7 P)).ins (nat_lit 229) (o229_7 P)).ins (nat_lit 230) (o230_7 P)).ins (nat_lit 231) (o231_7 P)).ins (nat_lit 232) (o232_7 P)).ins (nat_lit 233) (o233_7 P)).ins (nat_lit 234) (o234_7 P)).ins (nat_lit 235) (o235_7 P)).ins (nat_lit 236) (o236_7 P)).ins (nat_lit 237) (o237_7 P)).ins (nat_lit 238) (o238_7 P)).ins (nat_lit 239) (o239_7 P)).ins (nat_lit 240) (o240_7 P)).ins (nat_lit 241) (o241_7 P)).ins (nat_lit 242) (o242_7 P)).ins (nat_lit 243) (o243_7 P)).ins (nat_lit 244) (o244_7 P)).ins (nat_lit 245) (o245_7 P)).ins (nat_lit 246) (o246_7 P)).ins (nat_lit 247) (o247_7 P)).ins (nat_lit 248) (o248_7 P)).ins (nat_lit 249) (o249_7 P)).ins (nat_lit 250) (o250_7 P)).ins (nat_lit 251) (o251_7 P)).ins (nat_lit 252) (o252_7 P)).ins (nat_lit 253) (o253_7 P)).ins (nat_lit 254) (o254_7 P)).ins (nat_lit 255) (o255_7 P)).ins (nat_lit 256) (o256_7 P)).ins (nat_lit 257) (o257_7 P)).ins (nat_lit 258) (o258_7 P)).ins (nat_lit 259) (o259_7 P)).ins (nat_lit 260) (o260_7 P)).ins (nat_lit 261) (o261_7 P)).ins (nat_lit 262) (o262_7 P)).ins (nat_lit 263) (o263_7 P)).ins (nat_lit 264) (o264_7 P)).ins (nat_lit 265) (o265_7 P)).ins (nat_lit 266) (o266_7 P)).ins (nat_lit 267) (o267_7 P)).ins (nat_lit 268) (o268_7 P)).ins (nat_lit 269) (o269_7 P)).ins (nat_lit 270) (o270_7 P)).ins (nat_lit 271) (o271_7 P)).ins (nat_lit 272) (o272_7 P)).ins (nat_lit 273) (o273_7 P))
def lf7:Life:=⟨[],[],[],0,[],[],false,#[],[],0,false,false,false,(.ofNat 0),[(.ofNat 2000),(.ofNat 10),(.ofNat 10)],false,0,true,[],[],0,false⟩
abbrev S7 (w:World) (os:OsState):SharedT:=⟨T7 w.params,nat_lit 274,lf7,Array.mk [],⟨0,0,0,0⟩,nat_lit 607,os⟩
def q7 (w:World):(OsState→Option (Flow×SharedT×Code×Pos))×(OsState→Option (Flow×SharedT×Code×Pos)):=(fun os=>segRunT treeTable pw w (nat_lit 11) (some (.ref 6)) (nat_lit 1) (nat_lit 393) (S6 w os) (piecesOf g7 hE hC ⟨86,0,95,35⟩ hB),fun os=>some (Flow.next,S7 w os,hC,⟨191,0,195,21⟩))
theorem q7_eq:HD.seg pw (nat_lit 11) (some (.ref 6)) (nat_lit 393) S6 S7 g7 hE hC ⟨86,0,95,35⟩ ⟨191,0,195,21⟩ hB=q7:=by kernel_rfl
name_quick YK557 for q7 by q7_eq
theorem i7 (w:World):(Fast.YK557 w).1=(Fast.YK557 w).2:=by kernel_rfl
theorem h7:HD.Ok (HD.seg pw (nat_lit 11) (some (.ref 6)) (nat_lit 393) S6 S7 g7 hE hC ⟨86,0,95,35⟩ ⟨191,0,195,21⟩ hB):=HD.by1 Fast.YK557_eq i7
def o3_8 (P:Params):Obj:=⟨(.type "dict"),none,(.dict #[⟨(PyData.keyHash P x0),(.str x0 165),(.str x256 543)⟩,⟨(PyData.keyHash P x2),(.str x2 166),.none⟩,⟨(PyData.keyHash P x3),(.str x3 167),.none⟩,⟨(PyData.keyHash P x4),(.str x4 168),(.builtin "__main__.__loader__#opaque")⟩,⟨(PyData.keyHash P x5),(.str x5 169),.none⟩,⟨(PyData.keyHash P x161),(.str x161 170),(.ref 6)⟩,⟨(PyData.keyHash P x162),(.str x162 171),(.ref 4)⟩,⟨(PyData.keyHash P x163),(.str x163 173),(.str x164 172)⟩,⟨(PyData.keyHash P x165),(.str x165 174),.none⟩,⟨(PyData.keyHash P x167),(.str x167 193),(.ref 21)⟩,⟨(PyData.keyHash P x170),(.str x170 220),(.ref 38)⟩,⟨(PyData.keyHash P x179),(.str x179 243),(.ref 58)⟩,⟨(PyData.keyHash P x181),(.str x181 266),(.ref 77)⟩,⟨(PyData.keyHash P x184),(.str x184 270),(.int (.ofNat 600) 269)⟩,⟨(PyData.keyHash P x185),(.str x185 272),(.int (.ofNat 40) 271)⟩,⟨(PyData.keyHash P x186),(.str x186 274),(.int (.ofNat 99) 273)⟩,⟨(PyData.keyHash P x187),(.str x187 276),(.int (.ofNat 12) 275)⟩,⟨(PyData.keyHash P x188),(.str x188 278),(.str x189 277)⟩,⟨(PyData.keyHash P x190),(.str x190 284),(.ref 80)⟩,⟨(PyData.keyHash P x195),(.str x195 349),(.ref 81)⟩,⟨(PyData.keyHash P x210),(.str x210 365),(.ref 101)⟩,⟨(PyData.keyHash P x211),(.str x211 371),(.ref 106)⟩,⟨(PyData.keyHash P x212),(.str x212 377),(.ref 111)⟩,⟨(PyData.keyHash P x213),(.str x213 384),(.ref 118)⟩,⟨(PyData.keyHash P x215),(.str x215 390),(.ref 123)⟩,⟨(PyData.keyHash P x216),(.str x216 397),(.ref 130)⟩,⟨(PyData.keyHash P x218),(.str x218 405),(.ref 135)⟩,⟨(PyData.keyHash P x220),(.str x220 409),(.str x221 408)⟩,⟨(PyData.keyHash P x222),(.str x222 411),(.int (.ofNat 39) 410)⟩,⟨(PyData.keyHash P x223),(.str x223 474),(.ref 180)⟩,⟨(PyData.keyHash P x238),(.str x238 483),(.ref 191)⟩,⟨(PyData.keyHash P x240),(.str x240 494),(.ref 198)⟩,⟨(PyData.keyHash P x245),(.str x245 500),(.ref 203)⟩,⟨(PyData.keyHash P x246),(.str x246 509),(.ref 210)⟩,⟨(PyData.keyHash P x249),(.str x249 518),(.ref 217)⟩,⟨(PyData.keyHash P x250),(.str x250 534),(.ref 224)⟩,⟨(PyData.keyHash P x255),(.str x255 542),(.ref 231)⟩,⟨(PyData.keyHash P x257),(.str x257 552),(.ref 238)⟩,⟨(PyData.keyHash P x260),(.str x260 561),(.ref 245)⟩,⟨(PyData.keyHash P x264),(.str x264 573),(.ref 252)⟩,⟨(PyData.keyHash P x269),(.str x269 585),(.ref 259)⟩,⟨(PyData.keyHash P x271),(.str x271 597),(.ref 266)⟩,⟨(PyData.keyHash P x275),(.str x275 606),(.ref 273)⟩,⟨(PyData.keyHash P x276),(.str x276 619),(.ref 280)⟩,⟨(PyData.keyHash P x279),(.str x279 628),(.ref 287)⟩,⟨(PyData.keyHash P x280),(.str x280 638),(.ref 294)⟩,⟨(PyData.keyHash P x282),(.str x282 649),(.ref 301)⟩,⟨(PyData.keyHash P x283),(.str x283 664),(.ref 308)⟩,⟨(PyData.keyHash P x287),(.str x287 670),(.ref 313)⟩] 49),#[]⟩
def o12_8 (P:Params):Obj:=⟨.none,none,(.fields #[(HD.i 1),(HD.i 0),(.ref 20),(HD.i 5),(HD.i 0),(.ref 27),(HD.i 9),(HD.i 0),(.ref 47),(HD.i 13),(HD.i 0),(.ref 66),(HD.i 26),(HD.i 0),(.ref 105),(HD.i 30),(HD.i 0),(.ref 110),(HD.i 42),(HD.i 0),(.ref 117),(HD.i 46),(HD.i 0),(.ref 122),(HD.i 50),(HD.i 0),(.ref 129),(HD.i 55),(HD.i 0),(.ref 134),(HD.i 61),(HD.i 0),(.ref 141),(HD.i 86),(HD.i 0),(.ref 190),(HD.i 96),(HD.i 0),(.ref 197),(HD.i 106),(HD.i 0),(.ref 202),(HD.i 110),(HD.i 0),(.ref 209),(HD.i 115),(HD.i 0),(.ref 216),(HD.i 123),(HD.i 0),(.ref 223),(HD.i 145),(HD.i 0),(.ref 230),(HD.i 148),(HD.i 0),(.ref 237),(HD.i 152),(HD.i 0),(.ref 244),(HD.i 161),(HD.i 0),(.ref 251),(HD.i 173),(HD.i 0),(.ref 258),(HD.i 181),(HD.i 0),(.ref 265),(HD.i 191),(HD.i 0),(.ref 272),(HD.i 196),(HD.i 0),(.ref 279),(HD.i 217),(HD.i 0),(.ref 286),(HD.i 222),(HD.i 0),(.ref 293),(HD.i 230),(HD.i 0),(.ref 300),(HD.i 241),(HD.i 0),(.ref 307),(HD.i 260),(HD.i 0),(.ref 312)]),#[]⟩
def o274_8 (P:Params):Obj:=⟨(.type "tuple"),none,(.seq #[] 0),#[]⟩
def o275_8 (P:Params):Obj:=⟨.none,none,(.fields #[]),#[]⟩
def o276_8 (P:Params):Obj:=⟨(.type "tuple"),none,(.seq #[(.str x258 610),(.str x266 611),(.str x274 612),(.str x277 613),(.str x265 614),(.str x278 615),(.str x272 616)] 0),#[]⟩
def o277_8 (P:Params):Obj:=⟨(.type "tuple"),none,(.seq #[] 0),#[]⟩
def o278_8 (P:Params):Obj:=⟨.none,none,(.func ⟨x276,x276,L2.defArgs (ht 39),.stmts (L2.defBody (ht 39)),L2.defScope (ht 39),0,[],.none,.none,.none,.none,none,.none,.none,0⟩),#[]⟩
def o279_8 (P:Params):Obj:=⟨(.type "code"),none,(.fields #[(.str x276 607),(.str x276 608),(.str x164 609),(HD.i 196),(HD.i 3),(HD.i 0),(HD.i 0),(HD.i 3),(.ref 274),(.bool true),(HD.i 181),(.ref 275),.none,(.ref 276),(.ref 277),(.ref 278),(HD.i 617),(HD.i 196),(.str x164 618)]),#[]⟩
def o280_8 (P:Params):Obj:=⟨(.type "function"),none,(.func ⟨x276,x276,L2.defArgs (ht 39),.stmts (L2.defBody (ht 39)),L2.defScope (ht 39),3,[],.none,.none,.none,(.str x256 543),none,(.ref 279),.none,0⟩),#[]⟩
def o281_8 (P:Params):Obj:=⟨(.type "tuple"),none,(.seq #[] 0),#[]⟩
def o282_8 (P:Params):Obj:=⟨.none,none,(.fields #[]),#[]⟩
def o283_8 (P:Params):Obj:=⟨(.type "tuple"),none,(.seq #[(.str x270 623),(.str x267 624),(.str x259 625)] 0),#[]⟩
def o284_8 (P:Params):Obj:=⟨(.type "tuple"),none,(.seq #[] 0),#[]⟩
def o285_8 (P:Params):Obj:=⟨.none,none,(.func ⟨x279,x279,L2.defArgs (ht 40),.stmts (L2.defBody (ht 40)),L2.defScope (ht 40),0,[],.none,.none,.none,.none,none,.none,.none,0⟩),#[]⟩
def o286_8 (P:Params):Obj:=⟨(.type "code"),none,(.fields #[(.str x279 620),(.str x279 621),(.str x164 622),(HD.i 217),(HD.i 1),(HD.i 0),(HD.i 0),(HD.i 3),(.ref 281),(.bool true),(HD.i 181),(.ref 282),.none,(.ref 283),(.ref 284),(.ref 285),(HD.i 626),(HD.i 217),(.str x164 627)]),#[]⟩
def o287_8 (P:Params):Obj:=⟨(.type "function"),none,(.func ⟨x279,x279,L2.defArgs (ht 40),.stmts (L2.defBody (ht 40)),L2.defScope (ht 40),3,[],.none,.none,.none,(.str x256 543),none,(.ref 286),.none,0⟩),#[]⟩
def o288_8 (P:Params):Obj:=⟨(.type "tuple"),none,(.seq #[] 0),#[]⟩
def o289_8 (P:Params):Obj:=⟨.none,none,(.fields #[]),#[]⟩
def o290_8 (P:Params):Obj:=⟨(.type "tuple"),none,(.seq #[(.str x270 632),(.str x281 633),(.str x274 634),(.str x261 635)] 0),#[]⟩
def o291_8 (P:Params):Obj:=⟨(.type "tuple"),none,(.seq #[] 0),#[]⟩
def o292_8 (P:Params):Obj:=⟨.none,none,(.func ⟨x280,x280,L2.defArgs (ht 41),.stmts (L2.defBody (ht 41)),L2.defScope (ht 41),0,[],.none,.none,.none,.none,none,.none,.none,0⟩),#[]⟩
def o293_8 (P:Params):Obj:=⟨(.type "code"),none,(.fields #[(.str x280 629),(.str x280 630),(.str x164 631),(HD.i 222),(HD.i 1),(HD.i 0),(HD.i 0),(HD.i 3),(.ref 288),(.bool true),(HD.i 181),(.ref 289),.none,(.ref 290),(.ref 291),(.ref 292),(HD.i 636),(HD.i 222),(.str x164 637)]),#[]⟩
def o294_8 (P:Params):Obj:=⟨(.type "function"),none,(.func ⟨x280,x280,L2.defArgs (ht 41),.stmts (L2.defBody (ht 41)),L2.defScope (ht 41),3,[],.none,.none,.none,(.str x256 543),none,(.ref 293),.none,0⟩),#[]⟩
def o295_8 (P:Params):Obj:=⟨(.type "tuple"),none,(.seq #[] 0),#[]⟩
def o296_8 (P:Params):Obj:=⟨.none,none,(.fields #[]),#[]⟩
def o297_8 (P:Params):Obj:=⟨(.type "tuple"),none,(.seq #[(.str x265 642),(.str x274 643),(.str x261 644),(.str x267 645),(.str x259 646)] 0),#[]⟩
def o298_8 (P:Params):Obj:=⟨(.type "tuple"),none,(.seq #[] 0),#[]⟩
def o299_8 (P:Params):Obj:=⟨.none,none,(.func ⟨x282,x282,L2.defArgs (ht 42),.stmts (L2.defBody (ht 42)),L2.defScope (ht 42),0,[],.none,.none,.none,.none,none,.none,.none,0⟩),#[]⟩
def o300_8 (P:Params):Obj:=⟨(.type "code"),none,(.fields #[(.str x282 639),(.str x282 640),(.str x164 641),(HD.i 230),(HD.i 2),(HD.i 0),(HD.i 0),(HD.i 3),(.ref 295),(.bool true),(HD.i 181),(.ref 296),.none,(.ref 297),(.ref 298),(.ref 299),(HD.i 647),(HD.i 230),(.str x164 648)]),#[]⟩
def o301_8 (P:Params):Obj:=⟨(.type "function"),none,(.func ⟨x282,x282,L2.defArgs (ht 42),.stmts (L2.defBody (ht 42)),L2.defScope (ht 42),3,[],.none,.none,.none,(.str x256 543),none,(.ref 300),.none,0⟩),#[]⟩
def o302_8 (P:Params):Obj:=⟨(.type "tuple"),none,(.seq #[] 0),#[]⟩
def o303_8 (P:Params):Obj:=⟨.none,none,(.fields #[]),#[]⟩
def o304_8 (P:Params):Obj:=⟨(.type "tuple"),none,(.seq #[(.str x277 653),(.str x284 654),(.str x274 655),(.str x265 656),(.str x270 657),(.str x285 658),(.str x261 659),(.str x286 660),(.str x267 661)] 0),#[]⟩
def o305_8 (P:Params):Obj:=⟨(.type "tuple"),none,(.seq #[] 0),#[]⟩
def o306_8 (P:Params):Obj:=⟨.none,none,(.func ⟨x283,x283,L2.defArgs (ht 43),.stmts (L2.defBody (ht 43)),L2.defScope (ht 43),0,[],.none,.none,.none,.none,none,.none,.none,0⟩),#[]⟩
def o307_8 (P:Params):Obj:=⟨(.type "code"),none,(.fields #[(.str x283 650),(.str x283 651),(.str x164 652),(HD.i 241),(HD.i 3),(HD.i 0),(HD.i 0),(HD.i 3),(.ref 302),(.bool true),(HD.i 181),(.ref 303),.none,(.ref 304),(.ref 305),(.ref 306),(HD.i 662),(HD.i 241),(.str x164 663)]),#[]⟩
def o308_8 (P:Params):Obj:=⟨(.type "function"),none,(.func ⟨x283,x283,L2.defArgs (ht 43),.stmts (L2.defBody (ht 43)),L2.defScope (ht 43),3,[],.none,.none,.none,(.str x256 543),none,(.ref 307),.none,0⟩),#[]⟩
def o309_8 (P:Params):Obj:=⟨(.type "tuple"),none,(.seq #[] 0),#[]⟩
def o310_8 (P:Params):Obj:=⟨.none,none,(.fields #[]),#[]⟩
def o311_8 (P:Params):Obj:=⟨.none,none,(.func ⟨x287,x287,L2.defArgs (ht 44),.stmts (L2.defBody (ht 44)),L2.defScope (ht 44),0,[],.none,.none,.none,.none,none,.none,.none,0⟩),#[]⟩
def o312_8 (P:Params):Obj:=⟨(.type "code"),none,(.fields #[(.str x287 665),(.str x287 666),(.str x164 667),(HD.i 260),(HD.i 1),(HD.i 0),(HD.i 0),(HD.i 3),(.ref 309),(.bool true),(HD.i 181),(.ref 310),.none,.none,.none,(.ref 311),(HD.i 668),(HD.i 260),(.str x164 669)]),#[]⟩
def o313_8 (P:Params):Obj:=⟨(.type "function"),none,(.func ⟨x287,x287,L2.defArgs (ht 44),.stmts (L2.defBody (ht 44)),L2.defScope (ht 44),3,[],.none,.none,.none,(.str x256 543),none,(.ref 312),.none,0⟩),#[]⟩
def g8:List Stmt:=[ht 39,ht 40,ht 41,ht 42,ht 43,ht 44]
def T8 (P:Params):BT:=(((((((((((((((((((((((((((((((((((((((((((T7 P).ins (nat_lit 3) (o3_8 P)).ins (nat_lit 12) (o12_8 P)).ins (nat_lit 274) (o274_8 P)).ins (nat_lit 275) (o275_8 P)).ins (nat_lit 276) (o276_8 P)).ins (nat_lit 277) (o277_8 P)).ins (nat_lit 278) (o278_8 P)).ins (nat_lit 279) (o279_8 P)).ins (nat_lit 280) (o280_8 P)).ins (nat_lit 281) (o281_8 P)).ins (nat_lit 282) (o282_8 P)).ins (nat_lit 283) (o283_8 P)).ins (nat_lit 284) (o284_8 P)).ins (nat_lit 285) (o285_8 P)).ins (nat_lit 286) (o286_8 P)).ins (nat_lit 287) (o287_8 P)).ins (nat_lit 288) (o288_8 P)).ins (nat_lit 289) (o289_8 P)).ins (nat_lit 290) (o290_8 P)).ins (nat_lit 291) (o291_8 P)).ins (nat_lit 292) (o292_8 P)).ins (nat_lit 293) (o293_8 P)).ins (nat_lit 294) (o294_8 P)).ins (nat_lit 295) (o295_8 P)).ins (nat_lit 296) (o296_8 P)).ins (nat_lit 297) (o297_8 P)).ins (nat_lit 298) (o298_8 P)).ins (nat_lit 299) (o299_8 P)).ins (nat_lit 300) (o300_8 P)).ins (nat_lit 301) (o301_8 P)).ins (nat_lit 302) (o302_8 P)).ins (nat_lit 303) (o303_8 P)).ins (nat_lit 304) (o304_8 P)).ins (nat_lit 305) (o305_8 P)).ins (nat_lit 306) (o306_8 P)).ins (nat_lit 307) (o307_8 P)).ins (nat_lit 308) (o308_8 P)).ins (nat_lit 309) (o309_8 P)).ins (nat_lit 310) (o310_8 P)).ins (nat_lit 311) (o311_8 P)).ins (nat_lit 312) (o312_8 P)).ins (nat_lit 313) (o313_8 P))
def lf8:Life:=⟨[],[],[],0,[],[],false,#[],[],0,false,false,false,(.ofNat 0),[(.ofNat 2000),(.ofNat 10),(.ofNat 10)],false,0,true,[],[],0,false⟩
abbrev S8 (w:World) (os:OsState):SharedT:=⟨T8 w.params,nat_lit 314,lf8,Array.mk [],⟨0,0,0,0⟩,nat_lit 671,os⟩
def q8 (w:World):(OsState→Option (Flow×SharedT×Code×Pos))×(OsState→Option (Flow×SharedT×Code×Pos)):=(fun os=>segRunT treeTable pw w (nat_lit 11) (some (.ref 6)) (nat_lit 1) (nat_lit 195) (S7 w os) (piecesOf g8 hE hC ⟨191,0,195,21⟩ hB),fun os=>some (Flow.next,S8 w os,hC,⟨260,0,278,89⟩))
theorem q8_eq:HD.seg pw (nat_lit 11) (some (.ref 6)) (nat_lit 195) S7 S8 g8 hE hC ⟨191,0,195,21⟩ ⟨260,0,278,89⟩ hB=q8:=by kernel_rfl
name_quick YK558 for q8 by q8_eq
theorem i8 (w:World):(Fast.YK558 w).1=(Fast.YK558 w).2:=by kernel_rfl
theorem h8:HD.Ok (HD.seg pw (nat_lit 11) (some (.ref 6)) (nat_lit 195) S7 S8 g8 hE hC ⟨191,0,195,21⟩ ⟨260,0,278,89⟩ hB):=HD.by1 Fast.YK558_eq i8
def Hf_0 (P:Params) (r:List (Obj)):List (Obj):=PySem.W.boot_o_0 P::PySem.W.boot_o_1 P::PySem.W.boot_o_2 P::o3_8 P::PySem.W.boot_o_4 P::PySem.W.boot_o_5 P::PySem.W.boot_o_6 P::PySem.W.boot_o_7 P::PySem.W.boot_o_8 P::PySem.W.boot_o_9 P::PySem.W.boot_o_10 P::o11_a P::r
def Hf_1 (P:Params) (r:List (Obj)):List (Obj):=o12_8 P::o13_a P::o14_a P::o15_1 P::o16_1 P::o17_1 P::o18_1 P::o19_1 P::o20_1 P::o21_1 P::o22_1 P::o23_1 P::r
def Hf_2 (P:Params) (r:List (Obj)):List (Obj):=o24_1 P::o25_1 P::o26_1 P::o27_1 P::o28_1 P::o29_1 P::o30_1 P::o31_1 P::o32_1 P::o33_1 P::o34_1 P::o35_1 P::r
def Hf_3 (P:Params) (r:List (Obj)):List (Obj):=o36_1 P::o37_1 P::o38_3 P::o39_1 P::o40_1 P::o41_1 P::o42_2 P::o43_2 P::o44_2 P::o45_2 P::o46_2 P::o47_2 P::r
def Hf_4 (P:Params) (r:List (Obj)):List (Obj):=o48_2 P::o49_2 P::o50_2 P::o51_2 P::o52_2 P::o53_2 P::o54_2 P::o55_2 P::o56_2 P::o57_2 P::o58_2 P::o59_2 P::r
def Hf_5 (P:Params) (r:List (Obj)):List (Obj):=o60_2 P::o61_3 P::o62_3 P::o63_3 P::o64_3 P::o65_3 P::o66_3 P::o67_3 P::o68_3 P::o69_3 P::o70_3 P::o71_3 P::r
def Hf_6 (P:Params) (r:List (Obj)):List (Obj):=o72_3 P::o73_3 P::o74_3 P::o75_3 P::o76_3 P::o77_3 P::o78_3 P::o79_3 P::o80_3 P::o81_4 P::o82_4 P::o83_4 P::r
def Hf_7 (P:Params) (r:List (Obj)):List (Obj):=o84_4 P::o85_4 P::o86_4 P::o87_4 P::o88_4 P::o89_4 P::o90_4 P::o91_4 P::o92_4 P::o93_4 P::o94_4 P::o95_4 P::r
def Hf_8 (P:Params) (r:List (Obj)):List (Obj):=o96_4 P::o97_4 P::o98_4 P::o99_4 P::o100_4 P::o101_5 P::o102_5 P::o103_5 P::o104_5 P::o105_5 P::o106_5 P::o107_5 P::r
def Hf_9 (P:Params) (r:List (Obj)):List (Obj):=o108_5 P::o109_5 P::o110_5 P::o111_5 P::o112_5 P::o113_5 P::o114_5 P::o115_5 P::o116_5 P::o117_5 P::o118_5 P::o119_5 P::r
def Hf_10 (P:Params) (r:List (Obj)):List (Obj):=o120_5 P::o121_5 P::o122_5 P::o123_5 P::o124_5 P::o125_5 P::o126_5 P::o127_5 P::o128_5 P::o129_5 P::o130_5 P::o131_5 P::r
def Hf_11 (P:Params) (r:List (Obj)):List (Obj):=o132_5 P::o133_5 P::o134_5 P::o135_5 P::o136_6 P::o137_6 P::o138_6 P::o139_6 P::o140_6 P::o141_6 P::o142_6 P::o143_6 P::r
def Hf_12 (P:Params) (r:List (Obj)):List (Obj):=o144_6 P::o145_6 P::o146_6 P::o147_6 P::o148_6 P::o149_6 P::o150_6 P::o151_6 P::o152_6 P::o153_6 P::o154_6 P::o155_6 P::r
def Hf_13 (P:Params) (r:List (Obj)):List (Obj):=o156_6 P::o157_6 P::o158_6 P::o159_6 P::o160_6 P::o161_6 P::o162_6 P::o163_6 P::o164_6 P::o165_6 P::o166_6 P::o167_6 P::r
def Hf_14 (P:Params) (r:List (Obj)):List (Obj):=o168_6 P::o169_6 P::o170_6 P::o171_6 P::o172_6 P::o173_6 P::o174_6 P::o175_6 P::o176_6 P::o177_6 P::o178_6 P::o179_6 P::r
def Hf_15 (P:Params) (r:List (Obj)):List (Obj):=o180_6 P::o181_6 P::o182_6 P::o183_6 P::o184_6 P::o185_6 P::o186_6 P::o187_6 P::o188_6 P::o189_6 P::o190_6 P::o191_6 P::r
def Hf_16 (P:Params) (r:List (Obj)):List (Obj):=o192_7 P::o193_7 P::o194_7 P::o195_7 P::o196_7 P::o197_7 P::o198_7 P::o199_7 P::o200_7 P::o201_7 P::o202_7 P::o203_7 P::r
def Hf_17 (P:Params) (r:List (Obj)):List (Obj):=o204_7 P::o205_7 P::o206_7 P::o207_7 P::o208_7 P::o209_7 P::o210_7 P::o211_7 P::o212_7 P::o213_7 P::o214_7 P::o215_7 P::r
def Hf_18 (P:Params) (r:List (Obj)):List (Obj):=o216_7 P::o217_7 P::o218_7 P::o219_7 P::o220_7 P::o221_7 P::o222_7 P::o223_7 P::o224_7 P::o225_7 P::o226_7 P::o227_7 P::r
def Hf_19 (P:Params) (r:List (Obj)):List (Obj):=o228_7 P::o229_7 P::o230_7 P::o231_7 P::o232_7 P::o233_7 P::o234_7 P::o235_7 P::o236_7 P::o237_7 P::o238_7 P::o239_7 P::r
def Hf_20 (P:Params) (r:List (Obj)):List (Obj):=o240_7 P::o241_7 P::o242_7 P::o243_7 P::o244_7 P::o245_7 P::o246_7 P::o247_7 P::o248_7 P::o249_7 P::o250_7 P::o251_7 P::r
def Hf_21 (P:Params) (r:List (Obj)):List (Obj):=o252_7 P::o253_7 P::o254_7 P::o255_7 P::o256_7 P::o257_7 P::o258_7 P::o259_7 P::o260_7 P::o261_7 P::o262_7 P::o263_7 P::r
def Hf_22 (P:Params) (r:List (Obj)):List (Obj):=o264_7 P::o265_7 P::o266_7 P::o267_7 P::o268_7 P::o269_7 P::o270_7 P::o271_7 P::o272_7 P::o273_7 P::o274_8 P::o275_8 P::r
def Hf_23 (P:Params) (r:List (Obj)):List (Obj):=o276_8 P::o277_8 P::o278_8 P::o279_8 P::o280_8 P::o281_8 P::o282_8 P::o283_8 P::o284_8 P::o285_8 P::o286_8 P::o287_8 P::r
def Hf_24 (P:Params) (r:List (Obj)):List (Obj):=o288_8 P::o289_8 P::o290_8 P::o291_8 P::o292_8 P::o293_8 P::o294_8 P::o295_8 P::o296_8 P::o297_8 P::o298_8 P::o299_8 P::r
def Hf_25 (P:Params) (r:List (Obj)):List (Obj):=o300_8 P::o301_8 P::o302_8 P::o303_8 P::o304_8 P::o305_8 P::o306_8 P::o307_8 P::o308_8 P::o309_8 P::o310_8 P::o311_8 P::r
def Hf_26 (P:Params) (r:List (Obj)):List (Obj):=o312_8 P::o313_8 P::r
def Hf (P:Params):Heap:=⟨Array.mk (Hf_0 P (Hf_1 P (Hf_2 P (Hf_3 P (Hf_4 P (Hf_5 P (Hf_6 P (Hf_7 P (Hf_8 P (Hf_9 P (Hf_10 P (Hf_11 P (Hf_12 P (Hf_13 P (Hf_14 P (Hf_15 P (Hf_16 P (Hf_17 P (Hf_18 P (Hf_19 P (Hf_20 P (Hf_21 P (Hf_22 P (Hf_23 P (Hf_24 P (Hf_25 P (Hf_26 P []))))))))))))))))))))))))))),⟨[],[],[],0,[],[],false,#[],[],0,false,false,false,(.ofNat 0),[(.ofNat 2000),(.ofNat 10),(.ofNat 10)],false,0,true,[],[],0,false⟩⟩
def df:Drawn:=⟨0,0,0,0⟩
def kf:Nat:=nat_lit 671
abbrev Sf:World→OsState→Shared:=HD.mkS Hf df kf
def qz (w:World):(OsState→Option Shared)×(OsState→Option Shared):=(fun os=>topRun treeTable pw w (nat_lit 11) (some (.ref 6)) (nat_lit 2) (S8 w os).abs (Thread.mk (doneF Flow.next) hC ⟨260,0,278,89⟩ hB),fun os=>some (Sf w os))
theorem qz_eq:HD.fin pw (nat_lit 11) (some (.ref 6)) (nat_lit 2) S8 Sf (Thread.mk (doneF Flow.next) hC ⟨260,0,278,89⟩ hB)=qz:=by kernel_rfl
name_quick YK55z for qz by qz_eq
theorem iz (w:World):(Fast.YK55z w).1=(Fast.YK55z w).2:=by kernel_rfl
theorem hz:HD.Ok (HD.fin pw (nat_lit 11) (some (.ref 6)) (nat_lit 2) S8 Sf (Thread.mk (doneF Flow.next) hC ⟨260,0,278,89⟩ hB)):=HD.by1 Fast.YK55z_eq iz
theorem hsp:behindTheImports pw=(g1++(g2++(g3++(g4++(g5++(g6++(g7++(g8++([]:List Stmt))))))))):=by kernel_rfl
theorem hrun:HD.Goes pw (nat_lit 11) (some (.ref 6)) Sf (nat_lit 12+(nat_lit 1+(nat_lit 255+(nat_lit 244+(nat_lit 313+(nat_lit 340+(nat_lit 284+(nat_lit 384+(nat_lit 393+(nat_lit 195+(nat_lit 2))))))))))) S0 (topStub pw):=HD.g_pre ha (HD.g_blk hsp hb (HD.g_seg h1 (HD.g_seg h2 (HD.g_seg h3 (HD.g_seg h4 (HD.g_seg h5 (HD.g_seg h6 (HD.g_seg h7 (HD.g_seg h8 (HD.g_fin (env:=hE) hz))))))))))
def hq:Program:=HD.view pw [ht 0,ht 2,ht 3,ht 4,ht 6,ht 7,ht 8,ht 9,ht 10,ht 11,ht 12,ht 13,ht 14,ht 15,ht 16,ht 17,ht 18,ht 20,ht 22,ht 23,ht 24,ht 25,ht 26,ht 27,ht 28,ht 29,ht 30,ht 31,ht 33,ht 34,ht 35,ht 36,ht 37,ht 38,ht 39,ht 40,ht 41,ht 42,ht 43,ht 44]
def hl:List Str:=[PySem.Str.ofString "KIDS_DUE",PySem.Str.ofString "BINDER_OVER"]
def hK_0 (P:Params) (r:List (Addr×Obj)):List (Addr×Obj):=(nat_lit 2,PySem.W.boot_o_2 P)::(nat_lit 3,o3_8 P)::(nat_lit 15,o15_1 P)::(nat_lit 17,o17_1 P)::(nat_lit 18,o18_1 P)::(nat_lit 20,o20_1 P)::(nat_lit 21,o21_1 P)::(nat_lit 22,o22_1 P)::(nat_lit 29,o29_1 P)::(nat_lit 31,o31_1 P)::(nat_lit 32,o32_1 P)::(nat_lit 34,o34_1 P)::r
def hK_1 (P:Params) (r:List (Addr×Obj)):List (Addr×Obj):=(nat_lit 35,o35_1 P)::(nat_lit 36,o36_1 P)::(nat_lit 37,o37_1 P)::(nat_lit 38,o38_3 P)::(nat_lit 39,o39_1 P)::(nat_lit 42,o42_2 P)::(nat_lit 49,o49_2 P)::(nat_lit 51,o51_2 P)::(nat_lit 52,o52_2 P)::(nat_lit 54,o54_2 P)::(nat_lit 55,o55_2 P)::(nat_lit 56,o56_2 P)::r
def hK_2 (P:Params) (r:List (Addr×Obj)):List (Addr×Obj):=(nat_lit 57,o57_2 P)::(nat_lit 58,o58_2 P)::(nat_lit 61,o61_3 P)::(nat_lit 68,o68_3 P)::(nat_lit 70,o70_3 P)::(nat_lit 71,o71_3 P)::(nat_lit 73,o73_3 P)::(nat_lit 74,o74_3 P)::(nat_lit 75,o75_3 P)::(nat_lit 76,o76_3 P)::(nat_lit 77,o77_3 P)::(nat_lit 80,o80_3 P)::r
def hK_3 (P:Params) (r:List (Addr×Obj)):List (Addr×Obj):=(nat_lit 81,o81_4 P)::(nat_lit 82,o82_4 P)::(nat_lit 83,o83_4 P)::(nat_lit 84,o84_4 P)::(nat_lit 85,o85_4 P)::(nat_lit 86,o86_4 P)::(nat_lit 87,o87_4 P)::(nat_lit 88,o88_4 P)::(nat_lit 89,o89_4 P)::(nat_lit 90,o90_4 P)::(nat_lit 91,o91_4 P)::(nat_lit 92,o92_4 P)::r
def hK_4 (P:Params) (r:List (Addr×Obj)):List (Addr×Obj):=(nat_lit 93,o93_4 P)::(nat_lit 94,o94_4 P)::(nat_lit 95,o95_4 P)::(nat_lit 96,o96_4 P)::(nat_lit 97,o97_4 P)::(nat_lit 98,o98_4 P)::(nat_lit 100,o100_4 P)::(nat_lit 101,o101_5 P)::(nat_lit 102,o102_5 P)::(nat_lit 105,o105_5 P)::(nat_lit 106,o106_5 P)::(nat_lit 107,o107_5 P)::r
def hK_5 (P:Params) (r:List (Addr×Obj)):List (Addr×Obj):=(nat_lit 110,o110_5 P)::(nat_lit 111,o111_5 P)::(nat_lit 112,o112_5 P)::(nat_lit 114,o114_5 P)::(nat_lit 115,o115_5 P)::(nat_lit 117,o117_5 P)::(nat_lit 118,o118_5 P)::(nat_lit 119,o119_5 P)::(nat_lit 122,o122_5 P)::(nat_lit 123,o123_5 P)::(nat_lit 124,o124_5 P)::(nat_lit 126,o126_5 P)::r
def hK_6 (P:Params) (r:List (Addr×Obj)):List (Addr×Obj):=(nat_lit 127,o127_5 P)::(nat_lit 129,o129_5 P)::(nat_lit 130,o130_5 P)::(nat_lit 131,o131_5 P)::(nat_lit 134,o134_5 P)::(nat_lit 135,o135_5 P)::(nat_lit 143,o143_6 P)::(nat_lit 145,o145_6 P)::(nat_lit 146,o146_6 P)::(nat_lit 148,o148_6 P)::(nat_lit 149,o149_6 P)::(nat_lit 150,o150_6 P)::r
def hK_7 (P:Params) (r:List (Addr×Obj)):List (Addr×Obj):=(nat_lit 152,o152_6 P)::(nat_lit 153,o153_6 P)::(nat_lit 155,o155_6 P)::(nat_lit 156,o156_6 P)::(nat_lit 157,o157_6 P)::(nat_lit 159,o159_6 P)::(nat_lit 160,o160_6 P)::(nat_lit 162,o162_6 P)::(nat_lit 163,o163_6 P)::(nat_lit 164,o164_6 P)::(nat_lit 166,o166_6 P)::(nat_lit 167,o167_6 P)::r
def hK_8 (P:Params) (r:List (Addr×Obj)):List (Addr×Obj):=(nat_lit 169,o169_6 P)::(nat_lit 170,o170_6 P)::(nat_lit 171,o171_6 P)::(nat_lit 173,o173_6 P)::(nat_lit 174,o174_6 P)::(nat_lit 176,o176_6 P)::(nat_lit 177,o177_6 P)::(nat_lit 178,o178_6 P)::(nat_lit 179,o179_6 P)::(nat_lit 180,o180_6 P)::(nat_lit 181,o181_6 P)::(nat_lit 182,o182_6 P)::r
def hK_9 (P:Params) (r:List (Addr×Obj)):List (Addr×Obj):=(nat_lit 185,o185_6 P)::(nat_lit 187,o187_6 P)::(nat_lit 188,o188_6 P)::(nat_lit 190,o190_6 P)::(nat_lit 191,o191_6 P)::(nat_lit 192,o192_7 P)::(nat_lit 194,o194_7 P)::(nat_lit 195,o195_7 P)::(nat_lit 197,o197_7 P)::(nat_lit 198,o198_7 P)::(nat_lit 199,o199_7 P)::(nat_lit 202,o202_7 P)::r
def hK_10 (P:Params) (r:List (Addr×Obj)):List (Addr×Obj):=(nat_lit 203,o203_7 P)::(nat_lit 204,o204_7 P)::(nat_lit 206,o206_7 P)::(nat_lit 207,o207_7 P)::(nat_lit 209,o209_7 P)::(nat_lit 210,o210_7 P)::(nat_lit 211,o211_7 P)::(nat_lit 213,o213_7 P)::(nat_lit 214,o214_7 P)::(nat_lit 216,o216_7 P)::(nat_lit 217,o217_7 P)::(nat_lit 218,o218_7 P)::r
def hK_11 (P:Params) (r:List (Addr×Obj)):List (Addr×Obj):=(nat_lit 220,o220_7 P)::(nat_lit 221,o221_7 P)::(nat_lit 223,o223_7 P)::(nat_lit 224,o224_7 P)::(nat_lit 225,o225_7 P)::(nat_lit 227,o227_7 P)::(nat_lit 228,o228_7 P)::(nat_lit 230,o230_7 P)::(nat_lit 231,o231_7 P)::(nat_lit 232,o232_7 P)::(nat_lit 234,o234_7 P)::(nat_lit 235,o235_7 P)::r
def hK_12 (P:Params) (r:List (Addr×Obj)):List (Addr×Obj):=(nat_lit 237,o237_7 P)::(nat_lit 238,o238_7 P)::(nat_lit 239,o239_7 P)::(nat_lit 241,o241_7 P)::(nat_lit 242,o242_7 P)::(nat_lit 244,o244_7 P)::(nat_lit 245,o245_7 P)::(nat_lit 246,o246_7 P)::(nat_lit 248,o248_7 P)::(nat_lit 249,o249_7 P)::(nat_lit 251,o251_7 P)::(nat_lit 252,o252_7 P)::r
def hK_13 (P:Params) (r:List (Addr×Obj)):List (Addr×Obj):=(nat_lit 253,o253_7 P)::(nat_lit 255,o255_7 P)::(nat_lit 256,o256_7 P)::(nat_lit 258,o258_7 P)::(nat_lit 259,o259_7 P)::(nat_lit 260,o260_7 P)::(nat_lit 262,o262_7 P)::(nat_lit 263,o263_7 P)::(nat_lit 265,o265_7 P)::(nat_lit 266,o266_7 P)::(nat_lit 267,o267_7 P)::(nat_lit 269,o269_7 P)::r
def hK_14 (P:Params) (r:List (Addr×Obj)):List (Addr×Obj):=(nat_lit 270,o270_7 P)::(nat_lit 272,o272_7 P)::(nat_lit 273,o273_7 P)::(nat_lit 274,o274_8 P)::(nat_lit 276,o276_8 P)::(nat_lit 277,o277_8 P)::(nat_lit 279,o279_8 P)::(nat_lit 280,o280_8 P)::(nat_lit 281,o281_8 P)::(nat_lit 283,o283_8 P)::(nat_lit 284,o284_8 P)::(nat_lit 286,o286_8 P)::r
def hK_15 (P:Params) (r:List (Addr×Obj)):List (Addr×Obj):=(nat_lit 287,o287_8 P)::(nat_lit 288,o288_8 P)::(nat_lit 290,o290_8 P)::(nat_lit 291,o291_8 P)::(nat_lit 293,o293_8 P)::(nat_lit 294,o294_8 P)::(nat_lit 295,o295_8 P)::(nat_lit 297,o297_8 P)::(nat_lit 298,o298_8 P)::(nat_lit 300,o300_8 P)::(nat_lit 301,o301_8 P)::(nat_lit 302,o302_8 P)::r
def hK_16 (P:Params) (r:List (Addr×Obj)):List (Addr×Obj):=(nat_lit 304,o304_8 P)::(nat_lit 305,o305_8 P)::(nat_lit 307,o307_8 P)::(nat_lit 308,o308_8 P)::(nat_lit 309,o309_8 P)::(nat_lit 312,o312_8 P)::(nat_lit 313,o313_8 P)::r
def hK0 (P:Params):List (Addr×Obj):=(hK_0 P (hK_1 P (hK_2 P (hK_3 P (hK_4 P (hK_5 P (hK_6 P (hK_7 P (hK_8 P (hK_9 P (hK_10 P (hK_11 P (hK_12 P (hK_13 P (hK_14 P (hK_15 P (hK_16 P [])))))))))))))))))
def hK (P:Params):Frag:=(nat_lit 2,PySem.W.boot_o_2 P)::(nat_lit 3,o3_8 P)::(nat_lit 15,o15_1 P)::(nat_lit 17,o17_1 P)::(nat_lit 18,o18_1 P)::(nat_lit 20,o20_1 P)::(nat_lit 21,o21_1 P)::(nat_lit 22,o22_1 P)::(nat_lit 29,o29_1 P)::(nat_lit 31,o31_1 P)::(nat_lit 32,o32_1 P)::(nat_lit 34,o34_1 P)::(nat_lit 35,o35_1 P)::(nat_lit 36,o36_1 P)::(nat_lit 37,o37_1 P)::(nat_lit 38,o38_3 P)::(nat_lit 39,o39_1 P)::(nat_lit 42,o42_2 P)::(nat_lit 49,o49_2 P)::(nat_lit 51,o51_2 P)::(nat_lit 52,o52_2 P)::(nat_lit 54,o54_2 P)::(nat_lit 55,o55_2 P)::(nat_lit 56,o56_2 P)::(nat_lit 57,o57_2 P)::(nat_lit 58,o58_2 P)::(nat_lit 61,o61_3 P)::(nat_lit 68,o68_3 P)::(nat_lit 70,o70_3 P)::(nat_lit 71,o71_3 P)::(nat_lit 73,o73_3 P)::(nat_lit 74,o74_3 P)::(nat_lit 75,o75_3 P)::(nat_lit 76,o76_3 P)::(nat_lit 77,o77_3 P)::(nat_lit 80,o80_3 P)::(nat_lit 81,o81_4 P)::(nat_lit 82,o82_4 P)::(nat_lit 83,o83_4 P)::(nat_lit 84,o84_4 P)::(nat_lit 85,o85_4 P)::(nat_lit 86,o86_4 P)::(nat_lit 87,o87_4 P)::(nat_lit 88,o88_4 P)::(nat_lit 89,o89_4 P)::(nat_lit 90,o90_4 P)::(nat_lit 91,o91_4 P)::(nat_lit 92,o92_4 P)::(nat_lit 93,o93_4 P)::(nat_lit 94,o94_4 P)::(nat_lit 95,o95_4 P)::(nat_lit 96,o96_4 P)::(nat_lit 97,o97_4 P)::(nat_lit 98,o98_4 P)::(nat_lit 100,o100_4 P)::(nat_lit 101,o101_5 P)::(nat_lit 102,o102_5 P)::(nat_lit 105,o105_5 P)::(nat_lit 106,o106_5 P)::(nat_lit 107,o107_5 P)::(nat_lit 110,o110_5 P)::(nat_lit 111,o111_5 P)::(nat_lit 112,o112_5 P)::(nat_lit 114,o114_5 P)::(nat_lit 115,o115_5 P)::(nat_lit 117,o117_5 P)::(nat_lit 118,o118_5 P)::(nat_lit 119,o119_5 P)::(nat_lit 122,o122_5 P)::(nat_lit 123,o123_5 P)::(nat_lit 124,o124_5 P)::(nat_lit 126,o126_5 P)::(nat_lit 127,o127_5 P)::(nat_lit 129,o129_5 P)::(nat_lit 130,o130_5 P)::(nat_lit 131,o131_5 P)::(nat_lit 134,o134_5 P)::(nat_lit 135,o135_5 P)::(nat_lit 143,o143_6 P)::(nat_lit 145,o145_6 P)::(nat_lit 146,o146_6 P)::(nat_lit 148,o148_6 P)::(nat_lit 149,o149_6 P)::(nat_lit 150,o150_6 P)::(nat_lit 152,o152_6 P)::(nat_lit 153,o153_6 P)::(nat_lit 155,o155_6 P)::(nat_lit 156,o156_6 P)::(nat_lit 157,o157_6 P)::(nat_lit 159,o159_6 P)::(nat_lit 160,o160_6 P)::(nat_lit 162,o162_6 P)::(nat_lit 163,o163_6 P)::(nat_lit 164,o164_6 P)::(nat_lit 166,o166_6 P)::(nat_lit 167,o167_6 P)::(nat_lit 169,o169_6 P)::(nat_lit 170,o170_6 P)::(nat_lit 171,o171_6 P)::(nat_lit 173,o173_6 P)::(nat_lit 174,o174_6 P)::(nat_lit 176,o176_6 P)::(nat_lit 177,o177_6 P)::(nat_lit 178,o178_6 P)::(nat_lit 179,o179_6 P)::(nat_lit 180,o180_6 P)::(nat_lit 181,o181_6 P)::(nat_lit 182,o182_6 P)::(nat_lit 185,o185_6 P)::(nat_lit 187,o187_6 P)::(nat_lit 188,o188_6 P)::(nat_lit 190,o190_6 P)::(nat_lit 191,o191_6 P)::(nat_lit 192,o192_7 P)::(nat_lit 194,o194_7 P)::(nat_lit 195,o195_7 P)::(nat_lit 197,o197_7 P)::(nat_lit 198,o198_7 P)::(nat_lit 199,o199_7 P)::(nat_lit 202,o202_7 P)::(nat_lit 203,o203_7 P)::(nat_lit 204,o204_7 P)::(nat_lit 206,o206_7 P)::(nat_lit 207,o207_7 P)::(nat_lit 209,o209_7 P)::(nat_lit 210,o210_7 P)::(nat_lit 211,o211_7 P)::(nat_lit 213,o213_7 P)::(nat_lit 214,o214_7 P)::(nat_lit 216,o216_7 P)::(nat_lit 217,o217_7 P)::(nat_lit 218,o218_7 P)::(nat_lit 220,o220_7 P)::(nat_lit 221,o221_7 P)::(nat_lit 223,o223_7 P)::(nat_lit 224,o224_7 P)::(nat_lit 225,o225_7 P)::(nat_lit 227,o227_7 P)::(nat_lit 228,o228_7 P)::(nat_lit 230,o230_7 P)::(nat_lit 231,o231_7 P)::(nat_lit 232,o232_7 P)::(nat_lit 234,o234_7 P)::(nat_lit 235,o235_7 P)::(nat_lit 237,o237_7 P)::(nat_lit 238,o238_7 P)::(nat_lit 239,o239_7 P)::(nat_lit 241,o241_7 P)::(nat_lit 242,o242_7 P)::(nat_lit 244,o244_7 P)::(nat_lit 245,o245_7 P)::(nat_lit 246,o246_7 P)::(nat_lit 248,o248_7 P)::(nat_lit 249,o249_7 P)::(nat_lit 251,o251_7 P)::(nat_lit 252,o252_7 P)::(nat_lit 253,o253_7 P)::(nat_lit 255,o255_7 P)::(nat_lit 256,o256_7 P)::(nat_lit 258,o258_7 P)::(nat_lit 259,o259_7 P)::(nat_lit 260,o260_7 P)::(nat_lit 262,o262_7 P)::(nat_lit 263,o263_7 P)::(nat_lit 265,o265_7 P)::(nat_lit 266,o266_7 P)::(nat_lit 267,o267_7 P)::(nat_lit 269,o269_7 P)::(nat_lit 270,o270_7 P)::(nat_lit 272,o272_7 P)::(nat_lit 273,o273_7 P)::(nat_lit 274,o274_8 P)::(nat_lit 276,o276_8 P)::(nat_lit 277,o277_8 P)::(nat_lit 279,o279_8 P)::(nat_lit 280,o280_8 P)::(nat_lit 281,o281_8 P)::(nat_lit 283,o283_8 P)::(nat_lit 284,o284_8 P)::(nat_lit 286,o286_8 P)::(nat_lit 287,o287_8 P)::(nat_lit 288,o288_8 P)::(nat_lit 290,o290_8 P)::(nat_lit 291,o291_8 P)::(nat_lit 293,o293_8 P)::(nat_lit 294,o294_8 P)::(nat_lit 295,o295_8 P)::(nat_lit 297,o297_8 P)::(nat_lit 298,o298_8 P)::(nat_lit 300,o300_8 P)::(nat_lit 301,o301_8 P)::(nat_lit 302,o302_8 P)::(nat_lit 304,o304_8 P)::(nat_lit 305,o305_8 P)::(nat_lit 307,o307_8 P)::(nat_lit 308,o308_8 P)::(nat_lit 309,o309_8 P)::(nat_lit 312,o312_8 P)::(nat_lit 313,o313_8 P)::[]
def hA:List Addr:=[nat_lit 2,nat_lit 3,nat_lit 15,nat_lit 17,nat_lit 18,nat_lit 20,nat_lit 21,nat_lit 22,nat_lit 29,nat_lit 31,nat_lit 32,nat_lit 34,nat_lit 35,nat_lit 36,nat_lit 37,nat_lit 38,nat_lit 39,nat_lit 42,nat_lit 49,nat_lit 51,nat_lit 52,nat_lit 54,nat_lit 55,nat_lit 56,nat_lit 57,nat_lit 58,nat_lit 61,nat_lit 68,nat_lit 70,nat_lit 71,nat_lit 73,nat_lit 74,nat_lit 75,nat_lit 76,nat_lit 77,nat_lit 80,nat_lit 81,nat_lit 82,nat_lit 83,nat_lit 84,nat_lit 85,nat_lit 86,nat_lit 87,nat_lit 88,nat_lit 89,nat_lit 90,nat_lit 91,nat_lit 92,nat_lit 93,nat_lit 94,nat_lit 95,nat_lit 96,nat_lit 97,nat_lit 98,nat_lit 100,nat_lit 101,nat_lit 102,nat_lit 105,nat_lit 106,nat_lit 107,nat_lit 110,nat_lit 111,nat_lit 112,nat_lit 114,nat_lit 115,nat_lit 117,nat_lit 118,nat_lit 119,nat_lit 122,nat_lit 123,nat_lit 124,nat_lit 126,nat_lit 127,nat_lit 129,nat_lit 130,nat_lit 131,nat_lit 134,nat_lit 135,nat_lit 143,nat_lit 145,nat_lit 146,nat_lit 148,nat_lit 149,nat_lit 150,nat_lit 152,nat_lit 153,nat_lit 155,nat_lit 156,nat_lit 157,nat_lit 159,nat_lit 160,nat_lit 162,nat_lit 163,nat_lit 164,nat_lit 166,nat_lit 167,nat_lit 169,nat_lit 170,nat_lit 171,nat_lit 173,nat_lit 174,nat_lit 176,nat_lit 177,nat_lit 178,nat_lit 179,nat_lit 180,nat_lit 181,nat_lit 182,nat_lit 185,nat_lit 187,nat_lit 188,nat_lit 190,nat_lit 191,nat_lit 192,nat_lit 194,nat_lit 195,nat_lit 197,nat_lit 198,nat_lit 199,nat_lit 202,nat_lit 203,nat_lit 204,nat_lit 206,nat_lit 207,nat_lit 209,nat_lit 210,nat_lit 211,nat_lit 213,nat_lit 214,nat_lit 216,nat_lit 217,nat_lit 218,nat_lit 220,nat_lit 221,nat_lit 223,nat_lit 224,nat_lit 225,nat_lit 227,nat_lit 228,nat_lit 230,nat_lit 231,nat_lit 232,nat_lit 234,nat_lit 235,nat_lit 237,nat_lit 238,nat_lit 239,nat_lit 241,nat_lit 242,nat_lit 244,nat_lit 245,nat_lit 246,nat_lit 248,nat_lit 249,nat_lit 251,nat_lit 252,nat_lit 253,nat_lit 255,nat_lit 256,nat_lit 258,nat_lit 259,nat_lit 260,nat_lit 262,nat_lit 263,nat_lit 265,nat_lit 266,nat_lit 267,nat_lit 269,nat_lit 270,nat_lit 272,nat_lit 273,nat_lit 274,nat_lit 276,nat_lit 277,nat_lit 279,nat_lit 280,nat_lit 281,nat_lit 283,nat_lit 284,nat_lit 286,nat_lit 287,nat_lit 288,nat_lit 290,nat_lit 291,nat_lit 293,nat_lit 294,nat_lit 295,nat_lit 297,nat_lit 298,nat_lit 300,nat_lit 301,nat_lit 302,nat_lit 304,nat_lit 305,nat_lit 307,nat_lit 308,nat_lit 309,nat_lit 312,nat_lit 313]
def hX (s:Shared):Bool:=xlAt hq [] s && recOk [] s
abbrev hH:Hook:=kHook hK hA (fun _=>by kernel_rfl)
def qs (w:World):(OsState→(Bool×Nat×Option Value))×(OsState→(Bool×Nat×Option Value)):=(fun os=>((boot_heap w.params).isNs mainGlobals && (Array.mk []:Array GenState).size==0,(boot_heap w.params).objs.size,(boot_heap w.params).nsMap mainGlobals "__annotations__"),fun os=>(true,(nat_lit 11),(some (.ref 6))))
theorem qs_eq:HD.sz (nat_lit 11) (some (.ref 6))=qs:=by kernel_rfl
name_quick YK55s for qs by qs_eq
theorem is (w:World):(Fast.YK55s w).1=(Fast.YK55s w).2:=by kernel_rfl
theorem hs:HD.Ok (HD.sz (nat_lit 11) (some (.ref 6))):=HD.by1 Fast.YK55s_eq is
def qla (w:World):(OsState→Bool)×(OsState→Bool):=(fun os=>(staticsOk (importedModules pw.main.body) (boot_heap w.params) (Hf w.params) && namesBound pw (Hf w.params) && gensDone (Sf w os) && laidKept (boot_heap w.params) (Hf w.params)),fun os=>true)
theorem qla_eq:HD.la pw Hf df kf=qla:=by kernel_rfl
name_quick YK55la for qla by qla_eq
theorem ila (w:World):(Fast.YK55la w).1=(Fast.YK55la w).2:=by kernel_rfl
theorem hla:HD.Ok (HD.la pw Hf df kf):=HD.by1 Fast.YK55la_eq ila
def qlb (w:World):=((fun os:OsState=>openSeen hq hl (importedModules pw.main.body) hX true (Sf w os)),(fun _:OsState=>openGood hq hl))
theorem qlb_eq:HD.lb pw hq hl hX Hf df kf=qlb:=by kernel_rfl
name_quick YK55lb for qlb by qlb_eq
theorem ilb (w:World):(Fast.YK55lb w).1=(Fast.YK55lb w).2:=by kernel_rfl
theorem hlb:HD.Ok (HD.lb pw hq hl hX Hf df kf):=HD.by1 Fast.YK55lb_eq ilb
def qlc (w:World):(OsState→(List (Option Obj)))×(OsState→(List (Option Obj))):=(fun os=>hA.map (Sf w os).heap.get?,fun os=>(hK0 w.params).map fun p=>some p.2)
theorem qlc_eq:HD.lc hH Hf df kf=qlc:=by kernel_rfl
name_quick YK55lc for qlc by qlc_eq
theorem ilc (w:World):(Fast.YK55lc w).1=(Fast.YK55lc w).2:=by kernel_rfl
theorem hlc:HD.Ok (HD.lc hH Hf df kf):=HD.by1 Fast.YK55lc_eq ilc
theorem hleft:LeftO pw hq hl hX hH.obs hH.val 4926:=HD.left (by kernel_rfl) (by decide) (fun s=>by kernel_rfl) hs hrun (by decide +kernel) hla hlb hlc
end K55
end
open PySem PySem.W PyProof.Rows
set_option maxRecDepth 100000 in
set_option maxHeartbeats 0 in
theorem PySem.Challenge.cw_keeper_k55_texts_too_great_holds : PySem.Challenge.rw_keeper_k55_texts_too_great.Holds := by
  w_on; o_law
  refine PySem.W.holds_open (q:=K55.hq) (loose:=K55.hl) (Xt:=K55.hX) (XP:=PySem.W.XL K55.hq []) (Yf:=PySem.W.Hook.obs K55.hH) (Ya:=PySem.W.Hook.val K55.hH) (YP:=PySem.W.Hook.says K55.hH) (N:=4926) K55.hleft (PySem.W.Hook.of _) (PySem.W.Hook.keeps _) (fun s e=>PySem.W.xl_of s (Bool.and_eq_true_iff.mp e).1) PySem.W.XL.keeps (by rfl) (by rfl) (by rfl) (fun s e=>PySem.W.recFacts_of (Bool.and_eq_true_iff.mp e).2) (by rfl) (by assumption) (by decide +kernel) ⟨rfl,rfl,rfl,rfl,rfl,by decide +kernel⟩ ?hw ?hc
  case hw=>w_witness2
  delta K55.hH
  k_fill
  refine K55.walk (l:=PySem.Challenge.rw_keeper_k55_texts_too_great) rfl rfl (fun w h Y=>PySem.W.kIn_of Y) ?F
  case F =>
    intro w mg fa h KX G hmg
    have T:∃ t,K55.Txt (L2.KOf KX) mg t:=by
      dsimp only [L2.KOf]
      refine' K55.txt_mk KX G ?a0 ?a1 ?a2 ?a3 ?a4 ?a5 ?a6 ?a7 ?a8 ?a9 ?a10 ?a11 ?a12 ?a13 ?a14 ?a15 ?a16 ?a17 ?a18 ?a19 ?a20 ?a21 ?a22 ?a23 ?a24 ?z_all ?z_int ?z_isinstance ?z_len ?z_list ?z_max ?z_range ?z_reversed ?z_str ?z_tuple ?g_MOST_KNOTS ?g_MOST_DEEP ?g_MOST_VARIABLE ?g_MOST_LETTERS ?g_LETTERS ?g_KIND_WORDS ?lk_KIND_WORDS ?vs_KIND_WORDS ?g_KIDS_DUE ?lk_KIDS_DUE ?sy_KIDS_DUE ?ks_KIDS_DUE ?rf_KIDS_DUE ?u0_KIDS_DUE ?v0_KIDS_DUE ?u1_KIDS_DUE ?v1_KIDS_DUE ?u2_KIDS_DUE ?v2_KIDS_DUE ?u3_KIDS_DUE ?v3_KIDS_DUE ?u4_KIDS_DUE ?v4_KIDS_DUE ?u5_KIDS_DUE ?v5_KIDS_DUE ?u6_KIDS_DUE ?v6_KIDS_DUE ?u7_KIDS_DUE ?v7_KIDS_DUE ?u8_KIDS_DUE ?v8_KIDS_DUE ?u9_KIDS_DUE ?v9_KIDS_DUE ?u10_KIDS_DUE ?v10_KIDS_DUE ?u11_KIDS_DUE ?v11_KIDS_DUE ?u12_KIDS_DUE ?v12_KIDS_DUE ?u13_KIDS_DUE ?v13_KIDS_DUE ?u14_KIDS_DUE ?v14_KIDS_DUE ?u15_KIDS_DUE ?v15_KIDS_DUE ?u16_KIDS_DUE ?v16_KIDS_DUE ?u17_KIDS_DUE ?v17_KIDS_DUE ?g_BINDER_OVER ?lk_BINDER_OVER ?sy_BINDER_OVER ?vs_BINDER_OVER ?g_FIGURES ?g_MOST_FIGURE ?g_KeeperError ?g_Great ?g_NoText ?g_Form ?pg_Form ?hd_Form ?po_Form ?sa_Form ?mk_Form ?kp_Form ?na_Form_word ?na_Form_name ?na_Form_due ?na_Form_parts ?a_Form_init ?l_Form_init ?c_Form_init ?k_Form_init ?n_Form_init ?a_Form_binds_here ?l_Form_binds_here ?c_Form_binds_here ?k_Form_binds_here ?n_Form_binds_here ?a_Form_is_full ?l_Form_is_full ?c_Form_is_full ?k_Form_is_full ?n_Form_is_full ?a_Form_take ?l_Form_take ?c_Form_take ?k_Form_take ?n_Form_take ?a_Form_closed ?l_Form_closed ?c_Form_closed ?k_Form_closed ?n_Form_closed ?x_nt ?x_ke ?x_gr ?x_c1 ?x_c2 ?x_c3 ?x_c4 ?x_c5 ?x_c6 ?x_cg1 ?x_cg2 ?x_cg3 ?x_cg4 ?x_cg5 ?x_cg6 ?x_s2 ?x_s3 ?x_k1 ?x_k2 ?x_k3 ?x_k4
      (case a0=>apply L3.dfi; iterate 4 k_is)
      (case a1=>apply L3.dfi; iterate 4 k_is)
      (case a2=>apply L3.dfi; iterate 4 k_is)
      (case a3=>apply L3.dfi; iterate 4 k_is)
      (case a4=>apply L3.dfi; iterate 4 k_is)
      (case a5=>apply L3.dfi; iterate 4 k_is)
      (case a6=>apply L3.dfi; iterate 4 k_is)
      (case a7=>apply L3.dfi; iterate 4 k_is)
      (case a8=>apply L3.dfi; iterate 4 k_is)
      (case a9=>apply L3.dfi; iterate 4 k_is)
      (case a10=>apply L3.dfi; iterate 4 k_is)
      (case a11=>apply L3.dfi; iterate 4 k_is)
      (case a12=>apply L3.dfi; iterate 4 k_is)
      (case a13=>apply L3.dfi; iterate 4 k_is)
      (case a14=>apply L3.dfi; iterate 4 k_is)
      (case a15=>apply L3.dfi; iterate 4 k_is)
      (case a16=>apply L3.dfi; iterate 4 k_is)
      (case a17=>apply L3.dfi; iterate 4 k_is)
      (case a18=>apply L3.dfi; iterate 4 k_is)
      (case a19=>apply L3.dfi; iterate 4 k_is)
      (case a20=>apply L3.dfi; iterate 4 k_is)
      (case a21=>apply L3.dfi; iterate 4 k_is)
      (case a22=>apply L3.dfi; iterate 4 k_is)
      (case a23=>apply L3.dfi; iterate 4 k_is)
      (case a24=>apply L3.dfi; iterate 4 k_is)
      (case z_all=>k_is)
      (case z_int=>k_is)
      (case z_isinstance=>k_is)
      (case z_len=>k_is)
      (case z_list=>k_is)
      (case z_max=>k_is)
      (case z_range=>k_is)
      (case z_reversed=>k_is)
      (case z_str=>k_is)
      (case z_tuple=>k_is)
      (case g_MOST_KNOTS=>k_is)
      (case g_MOST_DEEP=>k_is)
      (case g_MOST_VARIABLE=>k_is)
      (case g_MOST_LETTERS=>k_is)
      (case g_LETTERS=>k_is)
      (case g_KIND_WORDS=>k_is)
      (case lk_KIND_WORDS=>k_is)
      (case vs_KIND_WORDS=>decide +kernel)
      (case g_KIDS_DUE=>k_is)
      (case lk_KIDS_DUE=>k_is)
      (case sy_KIDS_DUE=>decide +kernel)
      (case ks_KIDS_DUE=>kernel_rfl)
      (case rf_KIDS_DUE=>rfl)
      (case u0_KIDS_DUE=>k_is)
      (case v0_KIDS_DUE=>decide +kernel)
      (case u1_KIDS_DUE=>k_is)
      (case v1_KIDS_DUE=>decide +kernel)
      (case u2_KIDS_DUE=>k_is)
      (case v2_KIDS_DUE=>decide +kernel)
      (case u3_KIDS_DUE=>k_is)
      (case v3_KIDS_DUE=>decide +kernel)
      (case u4_KIDS_DUE=>k_is)
      (case v4_KIDS_DUE=>decide +kernel)
      (case u5_KIDS_DUE=>k_is)
      (case v5_KIDS_DUE=>decide +kernel)
      (case u6_KIDS_DUE=>k_is)
      (case v6_KIDS_DUE=>decide +kernel)
      (case u7_KIDS_DUE=>k_is)
      (case v7_KIDS_DUE=>decide +kernel)
      (case u8_KIDS_DUE=>k_is)
      (case v8_KIDS_DUE=>decide +kernel)
      (case u9_KIDS_DUE=>k_is)
      (case v9_KIDS_DUE=>decide +kernel)
      (case u10_KIDS_DUE=>k_is)
      (case v10_KIDS_DUE=>decide +kernel)
      (case u11_KIDS_DUE=>k_is)
      (case v11_KIDS_DUE=>decide +kernel)
      (case u12_KIDS_DUE=>k_is)
      (case v12_KIDS_DUE=>decide +kernel)
      (case u13_KIDS_DUE=>k_is)
      (case v13_KIDS_DUE=>decide +kernel)
      (case u14_KIDS_DUE=>k_is)
      (case v14_KIDS_DUE=>decide +kernel)
      (case u15_KIDS_DUE=>k_is)
      (case v15_KIDS_DUE=>decide +kernel)
      (case u16_KIDS_DUE=>k_is)
      (case v16_KIDS_DUE=>decide +kernel)
      (case u17_KIDS_DUE=>k_is)
      (case v17_KIDS_DUE=>decide +kernel)
      (case g_BINDER_OVER=>k_is)
      (case lk_BINDER_OVER=>k_is)
      (case sy_BINDER_OVER=>decide +kernel)
      (case vs_BINDER_OVER=>kernel_rfl)
      (case g_FIGURES=>k_is)
      (case g_MOST_FIGURE=>k_is)
      (case g_KeeperError=>k_is)
      (case g_Great=>k_is)
      (case g_NoText=>k_is)
      (case g_Form=>k_is)
      (case pg_Form=>k_is)
      (case hd_Form=>k_is)
      (case po_Form=>k_is)
      (case sa_Form=>k_is)
      (case mk_Form=>k_is)
      (case kp_Form=>k_is)
      (case na_Form_word=>k_is)
      (case na_Form_name=>k_is)
      (case na_Form_due=>k_is)
      (case na_Form_parts=>k_is)
      (case a_Form_init=>k_is)
      (case l_Form_init=>k_is)
      (case c_Form_init=>k_is)
      (case k_Form_init=>k_is)
      (case n_Form_init=>k_is)
      (case a_Form_binds_here=>k_is)
      (case l_Form_binds_here=>k_is)
      (case c_Form_binds_here=>k_is)
      (case k_Form_binds_here=>k_is)
      (case n_Form_binds_here=>k_is)
      (case a_Form_is_full=>k_is)
      (case l_Form_is_full=>k_is)
      (case c_Form_is_full=>k_is)
      (case k_Form_is_full=>k_is)
      (case n_Form_is_full=>k_is)
      (case a_Form_take=>k_is)
      (case l_Form_take=>k_is)
      (case c_Form_take=>k_is)
      (case k_Form_take=>k_is)
      (case n_Form_take=>k_is)
      (case a_Form_closed=>k_is)
      (case l_Form_closed=>k_is)
      (case c_Form_closed=>k_is)
      (case k_Form_closed=>k_is)
      (case n_Form_closed=>k_is)
      (case x_nt=>kernel_rfl)
      (case x_ke=>kernel_rfl)
      (case x_gr=>kernel_rfl)
      (case x_c1=>k_is)
      (case x_c2=>k_is)
      (case x_c3=>k_is)
      (case x_c4=>k_is)
      (case x_c5=>k_is)
      (case x_c6=>kernel_rfl)
      (case x_cg1=>k_is)
      (case x_cg2=>k_is)
      (case x_cg3=>k_is)
      (case x_cg4=>k_is)
      (case x_cg5=>k_is)
      (case x_cg6=>kernel_rfl)
      (case x_s2=>k_is)
      (case x_s3=>k_is)
      (case x_k1=>kernel_rfl)
      (case x_k2=>kernel_rfl)
      (case x_k3=>kernel_rfl)
      (case x_k4=>kernel_rfl)
    obtain ⟨t,T⟩:=T
    exact K55.fin T hmg
