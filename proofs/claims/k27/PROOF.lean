import PyProof.Rows.All
import Wide.All
import OpenK.AllK
import Wide.FinOn
import Lean
import PyProof.EqAt
import PyProof.EqKinds
import PyProof.TupleCall
import PyProof.ZipIter
import PyProof.Draws
import PyProof.TupleIter
import PySem.Value
import PyProof.NeKinds
import PyProof.ExcClass2
import PyProof.StationsW
import OpenK.KOwn
import KE.KIsAll
import PyProof.RulesAs
import PyProof.NsDelKeeps
import PyProof.PassesOwn
import PyProof.ExcArgsOwn
import PyProof.IsiH_list
import PyProof.EnumMake
import PyProof.EnumFor
import PyProof.WalksEnum
import PyProof.Rows.EnumRows
import PyProof.SumWalk
import PyProof.StrCalls
import PyProof.Rows.StrJoin2
import PyProof.WalkInts
import KE.KDictOf
import KE.KEqDict
import PyProof.EqLayable
import PyProof.P3Eq
import PyProof.MeetsIn
import KE.KNest
import KE.KNestM
import PyProof.StrCalls6
import PyProof.StrLaws
import PyProof.StrLawsIn
import PyProof.StrLawsChain
import PyProof.MeetsStr2
import PyProof.StrOps2
import PyProof.CallStr
import KE.KIntText
import KE.KRevIter
import PyProof.Rows.StrInSeq3
import PyProof.Rows.SeqMore2
import PySem.Challenge.RW_keeper_k27_deep_bodies
set_option Elab.async false
set_option linter.all false
set_option maxRecDepth 100000
noncomputable section
section
namespace L2
open PySem PySem.Spec PyProof.Rows
def HB (base:Heap) (A:Around):Prop:=A.handled=none∨∃ a oe vs,A.handled=some (.ref a)∧base.get? a=some oe∧oe.data=.fields vs∧vs[2]?=some .none
def HBp (base:Heap) (pn:List (Addr×Obj)) (A:Around):Prop:=A.handled=none∨∃ a oe vs,A.handled=some (.ref a)∧(base.get? a=some oe∨(a,oe)∈pn)∧oe.data=.fields vs∧vs[2]?=some .none
theorem HB.toP {base:Heap} {pn:List (Addr×Obj)} {A:Around} (h:HB base A):HBp base pn A:=by
  rcases h with h | ⟨a,oe,vs,e1,e2,e3⟩
  · exact .inl h
  · exact .inr ⟨a,oe,vs,e1,.inl e2,e3⟩
theorem ent_unchain : entryFor table "proto.unchain" = some Builtin.«proto.unchain» := entryFor_of_tree (by kernel_rfl)
section
variable {prog:Program} {w:World} {A:Around} {E:Value→Shared→Prop} {s:Shared} {base:Heap}
theorem HB.mono {h h':Heap} (hb:HB h A) (hk:∀ a o,A.handled=some (.ref a)→h.get? a=some o→h'.get? a=some o):HB h' A:=by
  rcases hb with hb | ⟨a,oe,vs,e1,e2,e3⟩
  · exact .inl hb
  · exact .inr ⟨a,oe,vs,e1,hk a oe e1 e2,e3⟩
theorem un_chain {n a:Addr} {oe:Obj} {vs:Array Value} {Q:Value→Shared→Prop} (he:s.heap.get? a=some oe) (hd:oe.data=.fields vs) (h2:vs[2]?=some .none) (h:Q .none s) :
    wpAny (model prog w) A (runValue (.builtin "proto.unchain" ⟨[.ref n,.ref a,.ref a,.bool false],[]⟩)) Q E s:=by
  refine wpAny_runValue (codeAny_builtin ent_unchain ?_)
  show wpAny _ _ (field (.ref a) 2 >>= _) _ _ s
  refine wpAny_bind (wpAny_field he hd h2 ?_)
  rw [if_pos (show (Value.none==Value.none)=true by rfl)]
  exact wpAny_pure h
theorem stop_made {α:Type} {Q:α→Shared→Prop} (hb:HB s.heap A)
    (hE:∀ h' e,(∀ b o,s.heap.get? b=some o→h'.get? b=some o)→(∃ o,h'.get? e=some o∧o.cls=.type "StopIteration")→E (.ref e) { s with heap:=h' }) :
    wpAny (model prog w) A (newExc (.type "StopIteration") [] >>= fun e=>(raiseNew e:Sem α)) Q E s:=by
  refine wpAny_bind ?_
  simp only [newExc,newTuple]
  refine wpAny_bind (wpAny_newObj_type ?_ (by size_fits))
  refine wpAny_bind (m:=firstArgMember _ _) (wpAny_of_eq (a:=Value.none) (by first | rfl | (simp only [firstArgMember]; rfl)) ?_)
  refine wpAny_newObj_type ?_ (by size_fits)
  simp only [raiseNew]
  refine wpAny_bind (wpAny_handled ?_)
  rcases hb with hb | ⟨a,oe,vs,hb,e1,e2,e3⟩
  · rw [hb]
    refine wpAny_bind (wpAny_pure (wpAny_throw (hE _ _ (fun b o e=>Heap.get?_push_of_some _ (Heap.get?_push_of_some _ e)) ⟨_,Heap.get?_push_size _ rfl,rfl⟩)))
  · rw [hb]
    have ea:=e1
    have lt:=Heap.lt_size ea
    have ne:a≠(s.heap.push { cls:=.type "tuple",data:=.seq #[] }).objs.size:=by
      rw [Heap.size_push]
      exact Nat.ne_of_lt (Nat.lt_succ_of_lt lt)
    dsimp only
    rw [if_pos (by simpa using ne)]
    refine wpAny_bind (wpAny_holding (un_chain (Heap.get?_push_of_some _ (Heap.get?_push_of_some _ ea)) e2 e3 ?_))
    refine wpAny_bind ?_
    show wpAny (model prog w) A (setField (.ref _) 2 (.ref a)) _ _ _
    refine wpAny_setField (Heap.get?_push_size _ rfl) rfl (by simp; omega) (wpAny_throw (hE _ _ (fun b o e=>?_) ⟨_,Heap.get?_update_self _ (Heap.get?_push_size _ rfl) (Obj.isFreed_of_fields (Obj.data_mapFields rfl _)),Obj.cls_mapFields _ _⟩))
    rw [Heap.get?_update_other _ _ ?_]
    · exact Heap.get?_push_of_some _ (Heap.get?_push_of_some _ e)
    · have:=Heap.lt_size e
      intro z
      rw [← z,Heap.size_push] at this
      exact Nat.not_succ_lt_self this
theorem is_stop {Q:Bool→Shared→Prop} {h':Heap} {e:Addr} (he:∃ o,h'.get? e=some o∧o.cls=.type "StopIteration") (h:Q true { s with heap:=h' }):wpAny (model prog w) A (isInstance (.ref e) (.type "StopIteration")) Q E { s with heap:=h' }:=by
  obtain ⟨o,ho,hc⟩:=he
  exact wpAny_isInstance (T := "StopIteration") (b:=true) ⟨o,ho,hc⟩ isSubtype_stop h
theorem HB.upd {it:Addr} {f:Obj→Obj} (hb:HB s.heap A) (na:∀ a,A.handled=some (.ref a)→a≠it):HB (s.heap.update it f) A:=hb.mono fun a o e1 e2=>(Heap.get?_update_other _ _ (Ne.symm (na a e1))).trans e2
theorem ext_upd {it:Addr} {f:Obj→Obj} {h':Heap} (k:∀ b o,(s.heap.update it f).get? b=some o→h'.get? b=some o):Heap.ExtBut it s.heap h':=fun b o hb e=>k b o ((Heap.get?_update_other _ _ (Ne.symm hb)).trans e)
theorem next_list_end {it l:Addr} {i:Nat} {items:Array Value} {Q:Option Value→Shared→Prop} (hb:HB s.heap A) (na:∀ a,A.handled=some (.ref a)→a≠it) (hit:s.heap.IsListIter it l i) (hl:s.heap.IsList l items) (hx:items[i]?=none)
    (hQ:∀ h',Heap.ExtBut it s.heap h'→Q none { s with heap:=h' }):wpAny (model prog w) A (pyNext (.ref it)) Q E s:=by
  obtain ⟨o,ho,hc,hd⟩:=id hit
  obtain ⟨ol,hol,_,nl,hdl⟩:=hl
  unfold pyNext
  refine wpAny_bind (wpAny_attempt (wpAny_callSpecial?_slot (name:=Str.ofString "__next__") hit.typeIs slot_listiter_next (wpAny_call_entry slot_listiter_next hit.typeIs entry_listiter_next ?_ (args_listiter_next _))))
  show wpAny (model prog w) _ (field (.ref it) 0 >>= _) _ _ s
  refine wpAny_bind (wpAny_field ho hd (x:=.ref l) rfl ?_)
  show wpAny (model prog w) _ (if (Value.ref l==Value.none)=true then _ else _) _ _ s
  rw [if_neg (show ¬ (Value.ref l==Value.none)=true from Bool.false_ne_true)]
  show wpAny (model prog w) _ (field (.ref it) 1 >>= _) _ _ s
  refine wpAny_bind (wpAny_field ho hd (x:=.int i 0) rfl ?_)
  show wpAny (model prog w) _ (seqItems? (.ref l) >>= _) _ _ s
  refine wpAny_bind (wpAny_seqItems hol hdl ?_)
  simp only [Int.toNat_natCast,hx]
  refine wpAny_bind (wpAny_rule (wpAny_bind (wpAny_setField ho hd (by simp) ?_)))
  exact stop_made (A:=A.in1) (hb.upd na) fun h' e k he=>wpAny_bind (is_stop he (wpAny_pure (hQ h' (ext_upd k))))
theorem next_tuple_end {it l:Addr} {i:Nat} {items:Array Value} {Q:Option Value→Shared→Prop} (hb:HB s.heap A) (na:∀ a,A.handled=some (.ref a)→a≠it) (hit:s.heap.IsTupleIter it l i) (hl:s.heap.IsTuple l items) (hx:items[i]?=none)
    (hQ:∀ h',Heap.ExtBut it s.heap h'→Q none { s with heap:=h' }):wpAny (model prog w) A (pyNext (.ref it)) Q E s:=by
  obtain ⟨o,ho,hc,hd⟩:=id hit
  obtain ⟨ol,hol,_,nl,hdl⟩:=hl
  unfold pyNext
  refine wpAny_bind (wpAny_attempt (wpAny_callSpecial?_slot (name:=Str.ofString "__next__") hit.typeIs F.slot_tuple_iterator_next (wpAny_call_entry F.slot_tuple_iterator_next hit.typeIs F.entry_tuple_iterator_next ?_ (F.args_tuple_iterator_next_1 _))))
  show wpAny (model prog w) _ (field (.ref it) 0 >>= _) _ _ s
  refine wpAny_bind (wpAny_field ho hd (x:=.ref l) rfl ?_)
  show wpAny (model prog w) _ (if (Value.ref l==Value.none)=true then _ else _) _ _ s
  rw [if_neg (show ¬ (Value.ref l==Value.none)=true from Bool.false_ne_true)]
  show wpAny (model prog w) _ (field (.ref it) 1 >>= _) _ _ s
  refine wpAny_bind (wpAny_field ho hd (x:=.int i 0) rfl ?_)
  show wpAny (model prog w) _ (seqItems? (.ref l) >>= _) _ _ s
  refine wpAny_bind (wpAny_seqItems hol hdl ?_)
  simp only [Int.toNat_natCast,hx]
  refine wpAny_bind (wpAny_rule (wpAny_bind (wpAny_setField ho hd (by simp) ?_)))
  exact stop_made (A:=A.in1) (hb.upd na) fun h' e k he=>wpAny_bind (is_stop he (wpAny_pure (hQ h' (ext_upd k))))
theorem next_range_end {it:Addr} {x left step:Int} {Q:Option Value→Shared→Prop} (hb:HB s.heap A) (hit:IsRangeIter s.heap it x left step) (hleft:left≤0)
    (hQ:∀ h',Heap.ExtBut it s.heap h'→Q none { s with heap:=h' }):wpAny (model prog w) A (pyNext (.ref it)) Q E s:=by
  have hT:s.TypeIs (.ref it) "range_iterator" := ⟨_,hit,rfl⟩
  unfold pyNext
  refine wpAny_bind (wpAny_attempt (wpAny_callSpecial?_slot (name:=Str.ofString "__next__") hT F.slot_range_iterator_next (wpAny_call_entry F.slot_range_iterator_next hT F.entry_range_iterator_next ?_ (F.args_range_iterator_next_1 _))))
  show wpAny (model prog w) _ (field (.ref it) 0 >>= _) _ _ s
  refine wpAny_bind (wpAny_field hit rfl (x:=rawInt x) rfl ?_)
  show wpAny (model prog w) _ (field (.ref it) 1 >>= _) _ _ s
  refine wpAny_bind (wpAny_field hit rfl (x:=rawInt left) rfl ?_)
  show wpAny (model prog w) _ (field (.ref it) 2 >>= _) _ _ s
  refine wpAny_bind (wpAny_field hit rfl (x:=rawInt step) rfl ?_)
  show wpAny (model prog w) _ (if left≤0 then _ else _) _ _ s
  rw [if_pos hleft]
  refine wpAny_bind (wpAny_rule ?_)
  refine wpAny_bind ?_
  exact stop_made (A:=A.in1) hb fun h' e k he=>wpAny_bind (is_stop he (wpAny_pure (hQ h' fun b o _ eb=>k b o eb)))
theorem unpackH {t:Addr} {items:Array Value} {Q:List Value→Shared→Prop} (hb:HB s.heap A) (ht:s.heap.IsTuple t items)
    (hQ:∀ h',Heap.ExtBut s.heap.objs.size s.heap h'→Q items.toList { s with heap:=h' }):wpAny (model prog w) A (unpackItems (.ref t) items.size none) Q E s:=by
  have hlt:t≠s.heap.objs.size:=by obtain ⟨o,ho,_⟩:=ht; exact Nat.ne_of_lt (Heap.lt_size ho)
  have lta:∀ a,A.handled=some (.ref a)→a≠s.heap.objs.size:=fun a ea=>by
    rcases hb with hb | ⟨a',oe,vs,e1,e2,_⟩
    · rw [hb] at ea; cases ea
    · rw [e1] at ea; cases ea; exact Nat.ne_of_lt (Heap.lt_size e2)
  unfold unpackItems
  refine wpAny_bind ?_
  unfold notIterableAtAll
  refine wpAny_bind (wpAny_specialOf ht.typeIs F.slot_tuple_iter.lookup (wpAny_pure ?_))
  simp only [Bool.false_eq_true,if_false]
  refine wpAny_bind (wpAny_holding (wpAny_pyIter_tuple ht ?_))
  refine wpAny_bind (wpAny_holding (wpAny_draw_tuple hlt items.size 0 _ _ ⟨_,Heap.get?_push_size _ rfl,rfl,rfl⟩ (ht.push _) (by omega) fun h₁ hit₁ hs₁=>?_))
  rw [show List.take items.size (List.drop 0 items.toList)=items.toList by rw [List.drop_zero]; exact List.take_of_length_le (by simp),if_neg (by simp)]
  have ht₁:h₁.IsTuple t items:=(ht.push _).extBut hs₁.extBut hlt
  have hb₁:HB h₁ A:=hb.mono fun a o ea eo=>hs₁.extBut a o (lta a ea) (Heap.get?_push_of_some _ eo)
  refine wpAny_bind (wpAny_holding (next_tuple_end (s:={ s with heap:=h₁ }) hb₁ lta hit₁ ht₁ (by simp) fun h₂ he₂=>?_))
  simp only [Option.isSome_none,Bool.false_eq_true,if_false]
  exact wpAny_pure (hQ h₂ fun b o hb e=>he₂ b o hb (hs₁.extBut b o hb (Heap.get?_push_of_some _ e)))
theorem assignH {env:Env} {elts:List Expr} {x1} {pos:Pos} {t:Addr} {items:Array Value} {Q:Unit→Shared→Prop} (hb:HB s.heap A) (ht:s.heap.IsTuple t items)
    (hn:(assignEach elts env).length=items.size) (hstar:(assignEach elts env).findIdx? (·.1)=none)
    (h:∀ h',Heap.ExtBut s.heap.objs.size s.heap h'→wpAny (model prog w) A (assignInOrder ((assignEach elts env).map (·.2)) items.toList) Q E { s with heap:=h' }):wpAny (model prog w) A (assign (.Tuple elts x1 pos) env (.ref t)) Q E s:=by
  rw [arm_assign_Tuple]
  refine wpAny_bind (wpAny_standAt ?_)
  unfold unpack
  rw [hn,hstar]
  exact wpAny_bind (wpAny_holding (unpackH hb ht h))
end
theorem range_item {prog:Program} {w:World} {A:Around} {s:Shared} {Q:Option Value→Shared→Prop} {E:Value→Shared→Prop} {I:Addr} {a c:Int} {n i:Nat} (hi:i<n) (st:IsRangeIter s.heap I (a+(i:Nat)*c) ((n:Int)-(i:Nat)) c)
    (hQ:∀ v h' tk,(∃ t,v=.int (a+i*c) t)→IsRangeIter h' I (a+((i+1:Nat):Int)*c) ((n:Int)-((i+1:Nat):Int)) c→(∀ b o,b∉[I]→s.heap.get? b=some o→h'.get? b=some o)→Q (some v) { s with heap:=h',toks:=tk }) :
    wpAny (model prog w) A (pyNext (.ref I)) Q E s:=by
  refine wpAny_pyNext_range_item st (by omega) fun h' hit' hs'=>hQ _ h' _ ⟨_,rfl⟩ ?_ fun b o hb e=>hs'.extBut b o (fun h=>hb (by simp [h])) e
  rw [show a+((i+1:Nat):Int)*c=a+(i:Int)*c+c by push_cast; rw [Int.add_mul,Int.one_mul,Int.add_assoc],show (n:Int)-((i+1:Nat):Int)=(n:Int)-(i:Int)-1 by push_cast; omega]
  exact hit'
def hAdr (A:Around):List Addr:=match A.handled with
  | some (.ref a)=>[a]
  | _=>[]
theorem mem_hAdr {A:Around} {d:Addr} (h:d∈hAdr A):A.handled=some (.ref d):=by
  unfold hAdr at h
  split at h
  · rename_i a e
    rw [List.mem_singleton.mp h]
    exact e
  · cases h
theorem HB.frame {A:Around} {h h':Heap} (hb:HB h A) (k:∀ b∈hAdr A,∀ o,h.get? b=some o→h'.get? b=some o):HB h' A:=hb.mono fun a o ea eo=>k a (by unfold hAdr; rw [ea]; simp) o eo
theorem walks_list {prog:Program} {w:World} {A:Around} (I ax:Addr) (hne:ax≠I) (items:Array Value) (na:∀ a,A.handled=some (.ref a)→a≠I) :
    Walks prog w A I (I::ax::hAdr A) [I] items.size (fun i v=>items[i]?=some v) (fun i h=>h.IsListIter I ax i∧h.IsList ax items∧HB h A) where
  sub:=fun b hb=>by simp at hb; simp [hb]
  frame:=fun _ _ _ st hk=>⟨st.1.at fun o e=>hk I (by simp) o e,st.2.1.at fun o e=>hk ax (by simp) o e,st.2.2.frame fun b hb=>hk b (by simp [hb])⟩
  item:=fun i s Q E hi st hQ=>by
    refine wpAny_pyNext_list_item st.1 st.2.1 (x:=items[i]) (by simp [hi]) fun h' hit' hs'=>?_
    exact hQ _ h' s.toks (by simp [hi]) ⟨hit',st.2.1.extBut hs'.extBut hne,st.2.2.mono fun a o ea eo=>hs'.extBut a o (na a ea) eo⟩ fun b o hb e=>hs'.extBut b o (fun h=>hb (by simp [h])) e
  done:=fun s Q E st hQ=>next_list_end st.2.2 na st.1 st.2.1 (by simp) fun h' he'=>hQ h' s.toks fun b o hb e=>he' b o (fun h=>hb (by simp [h])) e
  self:=fun _ _ _ _ st hQ=>wpAny_pyIter_listiter st.1 hQ
end L2
end
section
namespace L2
open PySem PySem.Spec PyProof.Rows
abbrev Key:=Sum Int Str
def keyIs:Key→Value→Bool
  | .inl k,v=>Value.isInt k v
  | .inr x,v=>Value.isStrOf x v
def keyH (w:World):Key→Int
  | .inl k=>hashInt k
  | .inr x=>hashStr w x
theorem keyIs_shape:∀ {k:Key} {v:Value},keyIs k v=true→(∃ i t,k=Sum.inl i∧v=Value.int i t)∨(∃ x t,k=Sum.inr x∧v=Value.str x t)
  | .inl i,v,h=>by
    obtain ⟨t,e⟩:=Value.isInt_shape (k:=i) (v:=v) h
    exact .inl ⟨i,t,rfl,e⟩
  | .inr x,v,h=>by
    obtain ⟨t,e⟩:=Value.isStrOf_shape (x:=x) (v:=v) h
    exact .inr ⟨x,t,rfl,e⟩
theorem keyIs_int (i:Int) (t:Tok):keyIs (.inl i) (.int i t)=true:=by simp [keyIs,Value.isInt]
theorem keyIs_str (x:Str) (t:Tok):keyIs (.inr x) (.str x t)=true:=by simp [keyIs,Value.isStrOf]
theorem key_ll (a b:Int):decide ((Sum.inl a:Key)=Sum.inl b)=(a==b):=by
  by_cases e:a=b
  · subst e; simp
  · have h:¬ (Sum.inl a:Key)=Sum.inl b:=fun q=>e (Sum.inl.inj q)
    rw [decide_eq_false h]
    exact (beq_eq_false_iff_ne.mpr e).symm
theorem key_rr (a b:Str):decide ((Sum.inr a:Key)=Sum.inr b)=decide (a=b):=by
  by_cases e:a=b
  · subst e; simp
  · have h:¬ (Sum.inr a:Key)=Sum.inr b:=fun q=>e (Sum.inr.inj q)
    rw [decide_eq_false h,decide_eq_false e]
theorem key_lr (a:Int) (b:Str):decide ((Sum.inl a:Key)=Sum.inr b)=false:=decide_eq_false (fun q=>nomatch q)
theorem key_rl (a:Str) (b:Int):decide ((Sum.inr a:Key)=Sum.inl b)=false:=decide_eq_false (fun q=>nomatch q)
def mixKind (prog : Program) (w : World) : PySem.KeyKind prog w Key where
  is:=keyIs
  hash:=keyH w
  inj := fun v a b ha hb => by
    rcases keyIs_shape ha with ⟨i,t,rfl,rfl⟩ | ⟨x,t,rfl,rfl⟩
    · rcases keyIs_shape hb with ⟨j,u,rfl,e⟩ | ⟨y,u,rfl,e⟩
      · injection e with e1 _; rw [e1]
      · exact nomatch e
    · rcases keyIs_shape hb with ⟨j,u,rfl,e⟩ | ⟨y,u,rfl,e⟩
      · exact nomatch e
      · injection e with e1 _; rw [e1]
  byValue:=fun k v h=>by
    rcases keyIs_shape h with ⟨i,t,rfl,rfl⟩ | ⟨x,t,rfl,rfl⟩ <;> rfl
  pyHash:=fun hv h=>by
    rcases keyIs_shape hv with ⟨i,t,rfl,rfl⟩ | ⟨x,t,rfl,rfl⟩
    · exact wpAny_pyHash_int h
    · exact wpAny_pyHash_str h
  eqBool:=fun hu hv h=>by
    rcases keyIs_shape hu with ⟨i,t,rfl,rfl⟩ | ⟨x,t,rfl,rfl⟩
    · rcases keyIs_shape hv with ⟨j,u,rfl,rfl⟩ | ⟨y,u,rfl,rfl⟩
      · rw [key_ll] at h; exact wpAny_eqBool_int h
      · rw [key_lr] at h; exact SeqAt.EqAt.int_str i t y u _ _ _ _ h
    · rcases keyIs_shape hv with ⟨j,u,rfl,rfl⟩ | ⟨y,u,rfl,rfl⟩
      · rw [key_rl] at h; exact SeqAt.EqAt.str_int x t j u _ _ _ _ h
      · rw [key_rr] at h; exact wpAny_eqBool_str h
  «strs» := fun k x t v h => by
    rcases keyIs_shape h with ⟨i,u,rfl,e⟩ | ⟨y,u,rfl,e⟩
    · exact nomatch e
    · injection e with e1 _
      subst e1
      cases v <;> rfl
theorem mixKind_int (prog:Program) (w:World) (i:Int) (t:Tok):(mixKind prog w).is (.inl i) (.int i t)=true:=keyIs_int i t
theorem mixKind_str (prog:Program) (w:World) (x:Str) (t:Tok):(mixKind prog w).is (.inr x) (.str x t)=true:=keyIs_str x t
end L2
namespace L2
open PySem PySem.Spec PyProof.Rows
inductive V where
  | non | bl (b:Bool) | int (i:Int) | str (x:Str) | byt (b:Array UInt8) | flt (b:UInt64) | ref (a:Addr) | ty (n:String)
  deriving DecidableEq
def RelV:V→Value→Prop
  | .non,u=>u=Value.none
  | .bl b,u=>u=Value.bool b
  | .int i,u=>∃ t,u=Value.int i t
  | .str x,u=>∃ t,u=Value.str x t
  | .byt b,u=>∃ t,u=Value.bytes b t
  | .flt b,u=>∃ t,u=Value.float b t
  | .ref a,u=>u=Value.ref a
  | .ty n,u=>u=Value.type n
abbrev Vals:List V→List Value→Prop:=Paired RelV
theorem Vals.length {xs:List V} {us:List Value} (r:Vals xs us):xs.length=us.length:=Paired.length r
theorem Vals.get:∀ {xs:List V} {us:List Value} {i:Nat} {x:V},Vals xs us→xs[i]?=some x→∃ u,us[i]?=some u∧RelV x u
  | _,_,_,_,.nil,e=>by simp at e
  | _,_,0,_,.cons r _,e=>by simp at e; subst e; exact ⟨_,rfl,r⟩
  | _,_,i+1,x,.cons _ t,e=>by
    obtain ⟨u,h1,h2⟩:=Vals.get (i:=i) (x:=x) t (by simpa using e)
    exact ⟨u,by simpa using h1,h2⟩
theorem Vals.set {x:V} {u:Value} (r:RelV x u):∀ {xs:List V} {us:List Value} (i:Nat),Vals xs us→Vals (xs.set i x) (us.set i u)
  | _,_,_,.nil=>.nil
  | _,_,0,.cons _ t=>.cons r t
  | _,_,i+1,.cons q t=>.cons q (Vals.set r i t)
theorem Vals.append:∀ {xs ys:List V} {us ws:List Value},Vals xs us→Vals ys ws→Vals (xs++ys) (us++ws)
  | _,_,_,_,.nil,s=>s
  | _,_,_,_,.cons r t,s=>.cons r (Vals.append t s)
theorem Vals.take:∀ {xs:List V} {us:List Value} (n:Nat),Vals xs us→Vals (xs.take n) (us.take n)
  | _,_,0,_=>.nil
  | _,_,_+1,.nil=>.nil
  | _,_,n+1,.cons r t=>.cons r (Vals.take n t)
theorem Vals.drop:∀ {xs:List V} {us:List Value} (n:Nat),Vals xs us→Vals (xs.drop n) (us.drop n)
  | _,_,0,r=>r
  | _,_,_+1,.nil=>.nil
  | _,_,n+1,.cons _ t=>Vals.drop n t
def RelO:Option V→Option Value→Prop
  | some v,some u=>RelV v u
  | none,none=>True
  | _,_=>False
def KV {κ:Type}:List (κ×V)→List (κ×Value)→Prop:=Paired fun (p:κ×V) (q:κ×Value)=>p.1=q.1∧RelV p.2 q.2
def kV:Key→V
  | .inl i=>.int i
  | .inr x=>.str x
inductive TabS where
  | tab (q:Str) (ln cl:Value)
  | code (q:Str)
inductive HO where
  /-- a list -/
  | lst (xs:List V)
  /-- a tuple (never changes) -/
  | tup (xs:List V)
  /-- a dict whose keys are ints and texts; one whose keys are tuples of ints and texts (the empty one is both) -/
  | dK (kvs:List (Key×V)) | dT (kvs:List (List Key×V))
  /-- a set of ints: its members,its size -/
  | set (S:Int→Bool) (n:Nat)
  /-- an instance of the class at C,its dict at dx,its attributes -/
  | ins (C dx:Addr) (fs:List (Str×V))
  /-- the dict of the instance at x -/
  | own (x:Addr)
  /-- the dict of an exception -/
  | xd (fs:List (Str×V))
  /-- a bound method,f of x -/
  | met (f x:Addr)
  /-- a range object lo,lo+1,.. below hi -/
  | rng (lo hi:Int)
  /-- a thing that is known to the object (the script; a dict while a loop walks it): read,never written while it is so -/
  | frz (o:Obj) (u:HO)
  /-- a code object's table -/
  | tbl (ps:TabS)
  /-- any other thing,by what is true of its one object (a def of one's own: SetO a S n:=HO.ext fun h=>..) -/
  | ext (φ:Heap→Prop)
abbrev Hp:=Addr→Option HO
def upd (H:Hp) (a:Addr) (o:HO):Hp:=fun b=>if b=a then some o else H b
theorem upd_same {H:Hp} {a:Addr} {o:HO}:upd H a o a=some o:=by unfold upd; rw [if_pos rfl]
theorem upd_ne {H:Hp} {a b:Addr} {o:HO} (h:b≠a):upd H a o b=H b:=by unfold upd; rw [if_neg h]
theorem ne_of {H:Hp} {a b:Addr} {o u:HO} (h:H a=some o) (h':H b=some u) (d:o≠u):a≠b:=by
  intro e; subst e; rw [h] at h'; exact d (Option.some.inj h')
theorem ne_of_none {H:Hp} {a b:Addr} {o:HO} (h:H a=some o) (h':H b=none):a≠b:=by
  intro e; subst e; rw [h] at h'; cases h'
section
variable (P:Program) (w:World)
def ObjOk (H:Hp) (h:Heap) (a:Addr):HO→Prop
  | .lst xs=>xs.length≤sizeLine∧∃ (its:List Value) (n:Nat),Vals xs its∧h.get? a=some { cls:=.type "list",data:=.seq its.toArray n }
  | .tup xs=>xs.length≤sizeLine∧∃ its:List Value,Vals xs its∧IsTup h a its.toArray
  | .dK kvs=>kvs.length≤sizeLine∧(a==sysModules)=false∧∃ vs,KV kvs vs∧h.DictOf (mixKind P w) a vs
  | .dT kvs=>kvs.length≤sizeLine∧(a==sysModules)=false∧∃ xs:List (List Key×Addr×Value),
      Paired (fun (p:List Key×V) (q:List Key×Addr×Value)=>p.1=q.1∧H q.2.1=some (.tup (p.1.map kV))∧RelV p.2 q.2.2) kvs xs ∧
      ∃ o es ep,h.get? a=some o∧o.ExactDict∧o.data=.dict es ep∧es.toList=xs.map (entryOfKey (tupleKind (mixKind P w)))∧(xs.map (·.1)).Nodup
  | .set S n=>h.SetOf (intKind P w) a S n
  | .ins C dx fs=>H dx=some (.own a)∧fs.length≤1000∧dx≠a∧h.get? a=some (PySem.W.instObj C dx) ∧
      ∃ mA,h.Ns1 dx mA∧(∀ f,RelO (fs.lookup f) (mA f))∧PySem.Within mA (fs.map (·.1))
  | .own _=>∃ o,h.get? a=some o
  | .xd fs=>∃ mA,h.Ns1 a mA∧∀ f,RelO (fs.lookup f) (mA f)
  | .rng lo hi=>∃ t u v,h.get? a=some { cls:=.type "range",data:=.fields #[.int lo t,.int hi u,.int 1 v] }
  | .frz o u=>h.get? a=some o∧ObjOk H h a u
  | .tbl (.tab q ln cl)=>h.get? a=some { cls:=.none,data:=.fields #[] }∨∃ c,h.get? a=some { cls:=.none,data:=.fields #[ln,cl,.ref c] }∧H c=some (.tbl (.code q))
  | .tbl (.code q)=>h.CodeRec (.ref a) q
  | .met f x=>h.get? a=some (PySem.W.methodObj (.ref f) (.ref x))
  | .ext φ=>φ h∧(∃ o,h.get? a=some o)∧∀ h1 h2:Heap,φ h1→(∀ o,h1.get? a=some o→h2.get? a=some o)→φ h2
def HOk (H:Hp) (h:Heap):Prop:=∀ a o,H a=some o→ObjOk P w H h a o
end
section
variable {P:Program} {w:World} {H H':Hp} {h h':Heap} {a:Addr} {o:HO}
theorem ObjOk.lt (x:ObjOk P w H h a o):a<h.objs.size:=by
  cases o with
  | lst xs=>obtain ⟨_,_,_,_,e⟩:=x; exact Heap.lt_size e
  | tup xs=>obtain ⟨_,_,_,p⟩:=x; exact p.lt
  | dK kvs=>obtain ⟨_,_,_,_,o,_,_,e,_⟩:=x; exact Heap.lt_size e
  | dT kvs=>obtain ⟨_,_,_,_,o,_,_,e,_⟩:=x; exact Heap.lt_size e
  | set S n=>obtain ⟨o,_,_,_,e,_⟩:=x; exact Heap.lt_size e
  | ins C dx fs=>obtain ⟨_,_,_,e,_⟩:=x; exact Heap.lt_size e
  | own y=>obtain ⟨_,e⟩:=x; exact Heap.lt_size e
  | xd fs=>obtain ⟨_,⟨_,_,_,e,_⟩,_⟩:=x; exact Heap.lt_size e
  | rng lo hi=>obtain ⟨_,_,_,e⟩:=x; exact Heap.lt_size e
  | frz ob u=>obtain ⟨e,_⟩:=x; exact Heap.lt_size e
  | tbl ps=>cases ps with
    | tab q ln cl=>rcases x with e | ⟨c,e,_⟩ <;> exact Heap.lt_size e
    | code q=>obtain ⟨c,o,vs,t,e1,e2,_⟩:=x; cases e1; exact Heap.lt_size e2
  | met f y=>exact Heap.lt_size (show h.get? a=some _ from x)
  | ext φ=>obtain ⟨_,⟨_,e⟩,_⟩:=x; exact Heap.lt_size e
theorem Paired.mapP {α β:Type} {F G:α→β→Prop}:∀ {l₁:List α} {l₂:List β},Paired F l₁ l₂→(∀ a b,F a b→G a b)→Paired G l₁ l₂
  | _,_,.nil,_=>.nil
  | _,_,.cons r t,f=>.cons (f _ _ r) (Paired.mapP t f)
def Fix:HO→Prop
  | .tup _=>True
  | .tbl _=>True
  | _=>False
abbrev FixO:={ u:HO // Fix u }
theorem ObjOk.stay (x:ObjOk P w H h a o) (k:∀ b u,(b=a∨H b=some (.own a))→h.get? b=some u→h'.get? b=some u)
    (ho:∀ b,H b=some (.own a)→H' b=some (.own a)) (ht:∀ (b:Addr) (u:FixO),H b=some u.1→H' b=some u.1):ObjOk P w H' h' a o:=by
  induction o with
  | lst xs=>obtain ⟨z,its,n,r,e⟩:=x; exact ⟨z,its,n,r,k _ _ (.inl rfl) e⟩
  | tup xs=>obtain ⟨z,its,r,ob,e,c⟩:=x; exact ⟨z,its,r,ob,k _ _ (.inl rfl) e,c⟩
  | dK kvs=>obtain ⟨z,y,vs,r,ob,es,ep,e,c⟩:=x; exact ⟨z,y,vs,r,ob,es,ep,k _ _ (.inl rfl) e,c⟩
  | dT kvs =>
    obtain ⟨z,y,xs,r,ob,es,ep,e,c⟩:=x
    exact ⟨z,y,xs,Paired.mapP r fun p q z=>⟨z.1,ht _ ⟨.tup _,trivial⟩ z.2.1,z.2.2⟩,ob,es,ep,k _ _ (.inl rfl) e,c⟩
  | set S n=>obtain ⟨ob,es,ep,t,e,c⟩:=x; exact ⟨ob,es,ep,t,k _ _ (.inl rfl) e,c⟩
  | ins C dx fs =>
    obtain ⟨d,z,ne,e,mA,⟨od,es,ep,e2,c⟩,r⟩:=x
    exact ⟨ho _ d,z,ne,k _ _ (.inl rfl) e,mA,⟨od,es,ep,k _ _ (.inr d) e2,c⟩,r⟩
  | own y=>obtain ⟨ob,e⟩:=x; exact ⟨ob,k _ _ (.inl rfl) e⟩
  | xd fs=>obtain ⟨mA,⟨od,es,ep,e,c⟩,r⟩:=x; exact ⟨mA,⟨od,es,ep,k _ _ (.inl rfl) e,c⟩,r⟩
  | rng lo hi=>obtain ⟨t,u,v,e⟩:=x; exact ⟨t,u,v,k _ _ (.inl rfl) e⟩
  | frz ob u ih=>obtain ⟨e,q⟩:=x; exact ⟨k _ _ (.inl rfl) e,ih q⟩
  | tbl ps=>cases ps with
    | tab q ln cl =>
      rcases x with e | ⟨c,e,r⟩
      · exact .inl (k a _ (.inl rfl) e)
      · exact .inr ⟨c,k a _ (.inl rfl) e,ht c ⟨.tbl (.code q),trivial⟩ r⟩
    | code q =>
      obtain ⟨c,o,vs,t,e1,e2,e3⟩:=x
      cases e1
      exact ⟨_,o,vs,t,rfl,k a _ (.inl rfl) e2,e3⟩
  | met f y =>
    have e:h.get? a=some (PySem.W.methodObj (.ref f) (.ref y)):=x
    show h'.get? a=some (PySem.W.methodObj (.ref f) (.ref y))
    exact k a _ (.inl rfl) e
  | ext φ=>obtain ⟨p,⟨o,e⟩,st⟩:=x; exact ⟨st _ _ p fun o q=>k _ _ (.inl rfl) q,⟨o,k _ _ (.inl rfl) e⟩,st⟩
theorem HOk.lt (x:HOk P w H h) (e:H a=some o):a<h.objs.size:=(x a o e).lt
theorem HOk.fresh (x:HOk P w H h) (e:h.objs.size≤a):H a=none:=by
  cases q:H a with
  | none=>rfl
  | some u=>exact absurd (Nat.lt_of_lt_of_le (x.lt q) e) (Nat.lt_irrefl _)
theorem HOk.kept (x:HOk P w H h) (k:∀ b u,h.get? b=some u→h'.get? b=some u):HOk P w H h':=fun a o e =>
  (x a o e).stay (fun b u _ q=>k b u q) (fun _ q=>q) fun _ _ q=>q
theorem HOk.laid (x:HOk P w H h) (k:∀ b u,h.get? b=some u→h'.get? b=some u) (hp:h.objs.size≤a) (new:ObjOk P w (upd H a o) h' a o):HOk P w (upd H a o) h':=fun b u e=>by
  have hn:=x.fresh hp
  by_cases hb:b=a
  · subst hb; rw [upd_same] at e; cases e; exact new
  · rw [upd_ne hb] at e
    exact (x b u e).stay (fun c v _ q=>k c v q) (fun c q=>by rw [upd_ne (ne_of_none q hn)]; exact q) fun c xs q=>by rw [upd_ne (ne_of_none q hn)]; exact q
end
def Rd (H:Hp) (a:Addr) (u:HO):Prop:=H a=some u∨∃ o,H a=some (.frz o u)
theorem Rd.ok {P:Program} {w:World} {H:Hp} {h:Heap} {a:Addr} {u:HO} (r:Rd H a u) (x:HOk P w H h):ObjOk P w H h a u:=by
  rcases r with r | ⟨o,r⟩
  · exact x a u r
  · obtain ⟨_,q⟩:=x a _ r
    exact q
def Mut:Option HO→Prop
  | some (.lst _)=>True
  | some (.dK _)=>True
  | some (.dT _)=>True
  | some (.set _ _)=>True
  | some (.ins _ _ _)=>True
  | some (.ext _)=>True
  | _=>False
section
variable {P:Program} {w:World} {H:Hp} {h h':Heap} {x e:Addr} {o':HO}
theorem HOk.write (ok : HOk P w H h) (mu : Mut (H x)) (he : e = x ∨ H e = some (.own x)) (k : ∀ b u, b ≠ e → h.get? b = some u → h'.get? b = some u) (heo : ∃ u, h'.get? e = some u)
    (new:ObjOk P w (upd H x o') h' x o'):HOk P w (upd H x o') h':=fun b u q=>by
  have nown:∀ c y,H c=some (.own y)→c≠x:=fun c y r z=>by subst z; rw [r] at mu; exact mu
  have ntup:∀ (c:Addr) (u:FixO),H c=some u.1→c≠x:=fun c ⟨u,f⟩ r z=>by subst z; rw [show H c=some u from r] at mu; cases u <;> first | exact mu | exact f
  by_cases hb:b=x
  · subst hb; rw [upd_same] at q; cases q; exact new
  · rw [upd_ne hb] at q
    by_cases hbe:b=e
    · have q':H b=some (.own x):=by
        rcases he with z | z
        · exact absurd (hbe.trans z) hb
        · rw [hbe]; exact z
      rw [q] at q'; cases q'
      obtain ⟨v,hv⟩:=heo
      exact ⟨v,by rw [hbe]; exact hv⟩
    · refine (ok b u q).stay (fun c v hc r=>k c v ?_ r) (fun c r=>by rw [upd_ne (nown c b r)]; exact r) fun c xs r=>by rw [upd_ne (ntup c xs r)]; exact r
      rcases hc with rfl | hc
      · exact hbe
      · rintro rfl
        rcases he with z | z
        · exact nown c b hc z
        · rw [hc] at z; cases z; exact hb rfl
end
structure Un (fs ex:List Addr) (H H':Hp) (h h':Heap):Prop where
  keep:∀ b o,h.get? b=some o→H b=none→b∉fs→b∉ex→h'.get? b=some o
  slot:∀ b o,h.get? b=some o→H b=none→b∈fs→b∉ex→∃ sl,h'.get? b=some { o with slots:=sl }
  free:∀ b o,h.get? b=some o→H b=none→b∉ex→H' b=none
  there:∀ b o,h.get? b=some o→b∉ex→∃ o',h'.get? b=some o'
  tups:∀ b xs,H b=some (.tup xs)→H' b=some (.tup xs)
  frzs:∀ b o u,H b=some (.frz o u)→H' b=some (.frz o u)
  tbls:∀ b ps,H b=some (.tbl ps)→H' b=some (.tbl ps)
section
variable {fs fs' ex ex':List Addr} {H H1 H2:Hp} {h h1 h2 h':Heap} {a x e:Addr} {o:HO}
theorem Un.any (u:Un fs ex H H1 h h1) {b:Addr} {ob:Obj} (q:h.get? b=some ob) (n:H b=none) (hx:b∉ex):∃ sl,h1.get? b=some { ob with slots:=sl }:=by
  by_cases hb:b∈fs
  · exact u.slot b ob q n hb hx
  · exact ⟨ob.slots,u.keep b ob q n hb hx⟩
theorem Un.kept (k:∀ b u,h.get? b=some u→h'.get? b=some u):Un fs ex H H h h' :=
  ⟨fun b ob q _ _ _=>k b ob q,fun b ob q _ _ _=>⟨ob.slots,k b ob q⟩,fun _ _ _ n _=>n,fun b ob q _=>⟨ob,k b ob q⟩,fun _ _ q=>q,fun _ _ _ q=>q,fun _ ps q=>(by rw [q])⟩
theorem Un.refl:Un fs ex H H h h:=Un.kept fun _ _ q=>q
theorem Un.laid (k:∀ b u,h.get? b=some u→h'.get? b=some u) (hp:h.objs.size≤a) (hn:H a=none):Un fs ex H (upd H a o) h h' where
  keep:=fun b u q _ _ _=>k b u q
  slot:=fun b u q _ _ _=>⟨u.slots,k b u q⟩
  free:=fun b u q n _=>by rw [upd_ne (Nat.ne_of_lt (Nat.lt_of_lt_of_le (Heap.lt_size q) hp))]; exact n
  there:=fun b u q _=>⟨u,k b u q⟩
  tups:=fun b xs q=>by rw [upd_ne (ne_of_none q hn)]; exact q
  frzs:=fun b u xs q=>by rw [upd_ne (ne_of_none q hn)]; exact q
  tbls:=fun b ps q=>(by rw [upd_ne (ne_of_none q hn),q])
theorem Un.write (mu:Mut (H x)) (he:e=x∨H e=some (.own x)) (k:∀ b u,b≠e→h.get? b=some u→h'.get? b=some u) (heo:∃ u,h'.get? e=some u):Un fs ex H (upd H x o) h h':=by
  have hx:∀ b,H b=none→b≠x:=fun b n z=>by subst z; rw [n] at mu; exact mu
  have hb:∀ b,H b=none→b≠e:=fun b n z=>by
    subst z
    rcases he with r | r
    · exact hx b n r
    · rw [n] at r; cases r
  have hm:∀ b u,H b=some u→¬ Mut (some u)→b≠x:=fun b u q nm z=>by subst z; rw [q] at mu; exact nm mu
  refine ⟨fun b u q n _ _=>k b u (hb b n) q,fun b u q n _ _=>⟨u.slots,k b u (hb b n) q⟩,fun b u q n _=>by rw [upd_ne (hx b n)]; exact n,fun b u q _=>?_,
    fun b xs q=>by rw [upd_ne (hm b _ q fun z=>z)]; exact q,fun b u xs q=>by rw [upd_ne (hm b _ q fun z=>z)]; exact q,fun b ps q=>(by rw [upd_ne (hm b _ q fun z=>z),q])⟩
  by_cases hbe:b=e
  · subst hbe; exact heo
  · exact ⟨u,k b u hbe q⟩
end
def trk (h:Heap) (H:Hp):List Addr:=(List.range h.objs.size).filter fun a=>(H a).isSome
def hidT (h:Heap) (H:Hp):Heap:=PySem.W.hideAll h (trk h H)
theorem hidT_size (h:Heap) (H:Hp):(hidT h H).objs.size=h.objs.size:=PySem.W.hideAll_size _ _
theorem hidT_get {h:Heap} {H:Hp} {b:Addr} {o:Obj} (e:h.get? b=some o) (n:H b=none):(hidT h H).get? b=some o :=
  PySem.W.hideAll_get _ e fun hm=>by
    have q:(H b).isSome=true:=(List.mem_filter.mp hm).2
    rw [n] at q; simp at q
theorem of_hidT {h:Heap} {H:Hp} {b:Addr} {o:Obj} (e:(hidT h H).get? b=some o):h.get? b=some o∧H b=none:=by
  have e':h.get? b=some o:=PySem.W.of_hideAll (trk h H) e
  refine ⟨e',?_⟩
  cases q:H b with
  | none=>rfl
  | some x =>
    have hm:b∈trk h H:=List.mem_filter.mpr ⟨List.mem_range.mpr (Heap.lt_size e'),by simp [q]⟩
    have z:(hidT h H).get? b=none:=PySem.W.hideAll_none (trk h H) hm
    rw [z] at e; cases e
def allNews (g h:Heap) (L:Addr):List (Addr×Obj):=(List.range h.objs.size).filterMap fun a=>if a=L∨(g.get? a).isSome=true then none else (h.get? a).map fun o=>(a,o)
def rest (g h:Heap) (L d:Addr):List (Addr×Obj):=(allNews g h L).filter fun p=>decide (p.1≠d)
end L2
namespace L2
open PySem PySem.Spec PyProof.Rows
def BmK (mg:Str→Option Value) (h:Heap):Prop:=∃ bm ob,mg "__builtins__" = some (.ref bm)∧bm≠builtinsNs∧h.get? bm=some ob∧ob.cls=.type "module" ∧ ob.dict=some builtinsNs∧ob.data=.plain
theorem BmK.keeps {mg:Str→Option Value} {h h':Heap} (x:BmK mg h) (k:∀ b o,h.get? b=some o→h'.get? b=some o):BmK mg h':=let ⟨bm,ob,a,b,c,d⟩:=x; ⟨bm,ob,a,b,k _ _ c,d⟩
structure Mod (K:PySem.W.Frag) (mg:Str→Option Value) (base:Heap):Prop where
  kin:K.In base
  glob:base.Ns mainGlobals mg
  blt:∃ mb,base.Ns builtinsNs mb∧∀ x:Str,x ≠ "__name__" → mb x=bootBuiltins x
  nolimit:base.NoLimit
  bm:BmK mg base
structure Cx where
  prog:Program
  w:World
  K:PySem.W.Frag
  mg:Str→Option Value
  base:Heap
  A:Around
  N:List Str
  s₀:Shared
  H₀:Hp
  env:Env
  outer:List Env
  stack:List Env
  ex:List Addr
  fn:Str→Bool
  calm:Bool
  pn:List (Addr×Obj)
  xe:Value→Shared→Prop
def frs (l:List Env):List Addr:=l.filterMap (·.frame)
abbrev Cx.fs (X:Cx):List Addr:=frs X.outer
def Vis (sc:Scope) (x:Str):Prop:=sc.names.lookup x=some .local∨sc.names.lookup x=some .cell∨sc.names.lookup x=some .free
def Loc (sc:Scope) (x:Str):Prop:=sc.names.lookup x=some .local∨sc.names.lookup x=some .cell
def Look (env:Env) (h:Heap) (m:Str→Option Value) (x:Str) (u:Value):Prop :=
  (env.kindOf x=some .local∧m x=some u)∨((env.kindOf x=some .cell∨env.kindOf x=some .free)∧∃ c,env.cells.lookup x=some c∧h.IsCell c (some u))
structure Cx.Ok (X:Cx):Prop where
  mod:Mod X.K X.mg X.base
  kind:X.env.scope.kind=.function
  glob:X.env.globals=mainGlobals
  blt:X.env.builtins=builtinsNs
  above:X.s₀.heap.objs.size≤X.env.locals
  inj:∀ x y c,X.env.cells.lookup x=some c→X.env.cells.lookup y=some c→x=y
  has:∀ x,(X.env.kindOf x=some .cell∨X.env.kindOf x=some .free)→∃ c,X.env.cells.lookup x=some c
  cab:∀ x c,X.fn x=true→X.env.cells.lookup x=some c→X.s₀.heap.objs.size≤c
  hd:X.calm=true→HBp X.base X.pn X.A
  frames:X.A.frames=some X.stack
  stk:X.stack=X.outer∨(X.stack=X.env::X.outer∧X.env.frame=some X.env.locals)
  exf:∀ b∈X.ex,b≠X.env.locals∧∀ x c,X.env.cells.lookup x=some c→c≠b
  bs:∀ b o,X.base.get? b=some o→X.s₀.heap.get? b=some o∧X.H₀ b=none
  bsz:X.base.objs.size≤X.s₀.heap.objs.size
  noex:∀ b o,X.base.get? b=some o→b∉X.ex
  exfs:∀ b∈X.ex,b∉X.fs
  funs:X.s₀.heap.FunFrames X.base X.outer
  frf:∀ b∈X.fs,X.H₀ b=none
structure Inv (X:Cx) (pins:List (Addr×Obj)) (σ:List (Option V)) (H:Hp) (s:Shared):Prop where
  ok:X.Ok
  os:s.os=X.s₀.os
  bare:AllBare s.gens
  base:Un X.fs X.ex X.H₀ H X.s₀.heap s.heap
  loc:∃ m,s.heap.Ns X.env.locals m∧∀ (i:Nat) (x:Str) (v:V),X.N[i]?=some x→σ[i]?=some (some v)→Vis X.env.scope x→∃ u,RelV v u∧Look X.env s.heap m x u
  cell:∀ x c,X.env.cells.lookup x=some c→∃ v,s.heap.IsCell c v
  free:H X.env.locals=none
  freeC:∀ x c,X.env.cells.lookup x=some c→H c=none
  pin:∀ p∈X.pn++pins,s.heap.get? p.1=some p.2∧H p.1=none∧p.1≠X.env.locals∧p.1∉X.fs∧∀ v,p.2.data≠.cell v
  hok:HOk X.prog X.w H s.heap
  len:σ.length=X.N.length
section
variable {X:Cx} {pins:List (Addr×Obj)} {σ:List (Option V)} {H H':Hp} {s:Shared} {h':Heap}
theorem Cx.Ok.nofr (ok:X.Ok) {b:Addr} {o:Obj} (e:X.base.get? b=some o):b∉X.fs:=fun hb=>by
  have:=(ok.funs.mem hb).1
  rw [e] at this; cases this
theorem Inv.bs (I:Inv X pins σ H s):∀ b o,X.base.get? b=some o→s.heap.get? b=some o∧H b=none:=fun b o e =>
  ⟨I.base.keep b o (I.ok.bs b o e).1 (I.ok.bs b o e).2 (I.ok.nofr e) (I.ok.noex b o e),I.base.free b o (I.ok.bs b o e).1 (I.ok.bs b o e).2 (I.ok.noex b o e)⟩
theorem Inv.bk (I:Inv X pins σ H s):∀ b o,X.base.get? b=some o→s.heap.get? b=some o:=fun b o e=>(I.bs b o e).1
theorem Inv.mod (I:Inv X pins σ H s):Mod X.K X.mg X.base:=I.ok.mod
theorem Inv.hb (I:Inv X pins σ H s) (hc:X.calm=true):HB s.heap X.A:=by
  rcases I.ok.hd hc with h | ⟨a,oe,vs,e1,e2,e3⟩
  · exact .inl h
  · exact .inr ⟨a,oe,vs,e1,e2.elim (I.bk a oe) fun m=>(I.pin (a,oe) (List.mem_append_left _ m)).1,e3⟩
theorem Inv.hna (I:Inv X pins σ H s) (hc:X.calm=true) {it:Addr} (f3:it∈X.ex∨X.s₀.heap.objs.size≤it) (f5:∀ p∈X.pn++pins,p.1≠it):∀ a,X.A.handled=some (.ref a)→a≠it:=fun a ea z=>by
  subst z
  rcases I.ok.hd hc with h | ⟨b,oe,vs,e1,e2,e3⟩
  · rw [h] at ea; cases ea
  · rw [e1] at ea
    cases ea
    rcases e2 with e2 | e2
    · rcases f3 with z | z
      · exact I.ok.noex _ _ e2 z
      · exact absurd (Nat.lt_of_lt_of_le (Heap.lt_size e2) I.ok.bsz) (Nat.not_lt.mpr z)
    · exact f5 _ (List.mem_append_left _ e2) rfl
theorem Inv.kIn (I:Inv X pins σ H s):X.K.In s.heap:=I.ok.mod.kin.keeps I.bk
theorem Inv.fr (I:Inv X pins σ H s):∃ m,Fr X.base X.env.locals s.heap m :=
  let ⟨m,hn,_⟩:=I.loc
  ⟨m,hn,I.bk,Nat.le_trans I.ok.bsz I.ok.above⟩
theorem Inv.lt (I:Inv X pins σ H s):X.env.locals<s.heap.objs.size:=let ⟨_,hn,_⟩:=I.loc; hn.lt
theorem Inv.sz (I:Inv X pins σ H s):X.s₀.heap.objs.size≤s.heap.objs.size:=Nat.le_trans I.ok.above (Nat.le_of_lt I.lt)
theorem Inv.nofs (I:Inv X pins σ H s) {a:Addr} (h:s.heap.objs.size≤a):a∉X.fs:=fun hb=>by
  obtain ⟨_,o,ho,_⟩:=I.ok.funs.mem hb
  exact absurd (Nat.lt_of_lt_of_le (Heap.lt_size ho) (Nat.le_trans I.sz h)) (Nat.lt_irrefl _)
theorem Inv.cne (I:Inv X pins σ H s):∀ x c,X.env.cells.lookup x=some c→c≠X.env.locals:=fun x c e z=>by
  obtain ⟨v,o,ho,hd⟩:=I.cell x c e
  obtain ⟨m,⟨o',es,ep,ho',hd',_⟩,_⟩:=I.loc
  rw [z,ho'] at ho; cases ho; rw [hd'] at hd; cases hd
theorem Inv.funs (I:Inv X pins σ H s):s.heap.FunFrames X.base X.outer:=by
  have all:∀ (l:List Env),(∀ b∈frs l,b∈X.fs)→X.s₀.heap.FunFrames X.base l→s.heap.FunFrames X.base l:=by
    intro l
    induction l with
    | nil=>intro _ _; trivial
    | cons env r ih =>
      intro hs hl
      obtain ⟨hk,⟨L,o,hf,hn,ho,hd⟩,hr⟩:=hl
      have hL:L∈X.fs:=hs L (by unfold frs; rw [List.filterMap_cons,hf]; exact List.mem_cons_self)
      obtain ⟨sl,e⟩:=I.base.slot L o ho (I.ok.frf L hL) hL fun z=>I.ok.exfs L z hL
      exact ⟨hk,⟨L,_,hf,hn,e,hd⟩,ih (fun b hb=>hs b (by unfold frs; rw [List.filterMap_cons,hf]; exact List.mem_cons_of_mem _ hb)) hr⟩
  exact all X.outer (fun _ hb=>hb) I.ok.funs
theorem Inv.stack (I:Inv X pins σ H s):s.heap.FunFrames X.base X.stack:=by
  rcases I.ok.stk with e | ⟨e,hf⟩
  · rw [e]; exact I.funs
  · rw [e]
    obtain ⟨m,hn,_⟩:=I.loc
    refine .cons (by rw [I.ok.kind]; decide) hf hn ?_ I.funs
    exact Heap.get?_none_of_le (Nat.le_trans I.ok.bsz I.ok.above)
theorem Inv.stkSub (I:Inv X pins σ H s):∀ b∈frs X.stack,b∈X.env.locals::X.fs:=fun b hb=>by
  rcases I.ok.stk with e | ⟨e,hf⟩
  · rw [e] at hb; exact List.mem_cons_of_mem _ hb
  · rw [e] at hb
    unfold frs at hb
    rw [List.filterMap_cons,hf] at hb
    exact hb
theorem Inv.stkFree (I:Inv X pins σ H s):∀ b∈frs X.stack,H b=none:=fun b hb=>by
  rcases List.mem_cons.mp (I.stkSub b hb) with e | hb
  · rw [e]; exact I.free
  · obtain ⟨_,o,ho,_⟩:=I.ok.funs.mem hb
    exact I.base.free b o ho (I.ok.frf b hb) fun z=>I.ok.exfs b z hb
theorem Inv.step {g':Array GenState} {t':Nat} {d':Drawn} {ch:List Addr} (I:Inv X pins σ H s)
    (hch:∀ b∈ch,(b∈X.ex∨X.s₀.heap.objs.size≤b)∧b≠X.env.locals∧(∀ x c,X.env.cells.lookup x=some c→c≠b)∧∀ p∈X.pn++pins,p.1≠b)
    (keep:∀ b o,b≠X.env.locals→b∉X.fs→b∉ch→s.heap.get? b=some o→H b=none→h'.get? b=some o)
    (slot:∀ b o,b≠X.env.locals→b∈X.fs→b∉ch→s.heap.get? b=some o→H b=none→∃ sl,h'.get? b=some { o with slots:=sl }) (free:∀ b o,b∉ch→s.heap.get? b=some o→H b=none→H' b=none)
    (there:∀ b o,b∉ch→s.heap.get? b=some o→∃ o',h'.get? b=some o')
    (tups:∀ b xs,H b=some (.tup xs)→H' b=some (.tup xs)) (frzs:∀ b o u,H b=some (.frz o u)→H' b=some (.frz o u)) (tbls:∀ b ps,H b=some (.tbl ps)→H' b=some (.tbl ps))
    (ns:∀ m,s.heap.Ns X.env.locals m→h'.Ns X.env.locals m) (hok:HOk X.prog X.w H' h') (hg:AllBare g') :
    Inv X pins σ H' { s with heap:=h',gens:=g',drawn:=d',toks:=t' }:=by
  have neL:∀ b o,X.s₀.heap.get? b=some o→b≠X.env.locals:=fun b o e=>Nat.ne_of_lt (Nat.lt_of_lt_of_le (Heap.lt_size e) I.ok.above)
  have neC:∀ b o,X.s₀.heap.get? b=some o→b∉X.ex→b∉ch:=fun b o e hx hb=>by
    rcases (hch b hb).1 with z | z
    · exact hx z
    · exact absurd (Nat.lt_of_lt_of_le (Heap.lt_size e) z) (Nat.lt_irrefl _)
  have cellK:∀ x c,X.env.cells.lookup x=some c→∀ v,s.heap.IsCell c v→h'.IsCell c v:=fun x c e v ⟨o,ho,hd⟩=>by
    have nch:c∉ch:=fun z=>(hch c z).2.2.1 x c e rfl
    by_cases hc:c∈X.fs
    · obtain ⟨sl,q⟩:=slot c o (I.cne x c e) hc nch ho (I.freeC x c e)
      exact ⟨_,q,hd⟩
    · exact ⟨o,keep c o (I.cne x c e) hc nch ho (I.freeC x c e),hd⟩
  refine ⟨I.ok,I.os,hg,⟨fun b o e n hb hx=>?_,fun b o e n hb hx=>?_,fun b o e n hx=>?_,fun b o e hx=>?_,fun b xs e=>tups b xs (I.base.tups b xs e),fun b o xs e=>frzs b o xs (I.base.frzs b o xs e),fun b ps e=>?_⟩,?_,fun x c e=>?_,?_,fun x c e=>?_,fun p hp=>?_,hok,I.len⟩
  · exact keep b o (neL b o e) hb (neC b o e hx) (I.base.keep b o e n hb hx) (I.base.free b o e n hx)
  · obtain ⟨sl,e1⟩:=I.base.slot b o e n hb hx
    obtain ⟨sl',e2⟩:=slot b _ (neL b o e) hb (neC b o e hx) e1 (I.base.free b o e n hx)
    exact ⟨sl',e2⟩
  · obtain ⟨o',e1⟩:=I.base.there b o e hx
    exact free b o' (neC b o e hx) e1 (I.base.free b o e n hx)
  · obtain ⟨o',e1⟩:=I.base.there b o e hx
    exact there b o' (neC b o e hx) e1
  · exact tbls b ps (I.base.tbls b ps e)
  · obtain ⟨m,hn,hl⟩:=I.loc
    refine ⟨m,ns m hn,fun i x v e1 e2 e3=>?_⟩
    obtain ⟨u,r,l⟩:=hl i x v e1 e2 e3
    refine ⟨u,r,?_⟩
    rcases l with l | ⟨k,c,e,z⟩
    · exact .inl l
    · exact .inr ⟨k,c,e,cellK x c e _ z⟩
  · obtain ⟨v,z⟩:=I.cell x c e
    exact ⟨v,cellK x c e v z⟩
  · obtain ⟨m,⟨o,_,_,ho,_⟩,_⟩:=I.loc
    exact free _ o (fun z=>(hch _ z).2.1 rfl) ho I.free
  · obtain ⟨v,o,ho,hd⟩:=I.cell x c e
    exact free c o (fun z=>(hch c z).2.2.1 x c e rfl) ho (I.freeC x c e)
  · obtain ⟨e,n,ne,nf,d⟩:=I.pin p hp
    have nch:p.1∉ch:=fun z=>(hch p.1 z).2.2.2 p hp rfl
    exact ⟨keep p.1 p.2 ne nf nch e n,free p.1 p.2 nch e n,ne,nf,d⟩
theorem Inv.un {t':Nat} (I:Inv X pins σ H s) (u:Un X.fs [] H H' s.heap h') (hok:HOk X.prog X.w H' h'):Inv X pins σ H' { s with heap:=h',toks:=t' }:=by
  obtain ⟨m,⟨o,es,ep,ho,r⟩,_⟩:=id I.loc
  obtain ⟨sl,hL⟩:=u.any ho I.free (by simp)
  exact I.step (g':=s.gens) (d':=s.drawn) (ch:=[]) (fun _ z=>nomatch z) (fun b o _ hb _ e n=>u.keep b o e n hb (by simp)) (fun b o _ hb _ e n=>u.slot b o e n hb (by simp)) (fun b o _ e n=>u.free b o e n (by simp)) (fun b o _ e=>u.there b o e (by simp)) u.tups u.frzs u.tbls (fun m' hm=>by
    obtain ⟨o',es',ep',ho',r'⟩:=hm
    rw [ho] at ho'; cases ho'
    exact ⟨_,es',ep',hL,r'⟩) hok I.bare
theorem Inv.call {g':Array GenState} {t':Nat} {d':Drawn} {ch:List Addr} (I:Inv X pins σ H s) (u:Un (frs X.stack) ch H H' s.heap h') (hok:HOk X.prog X.w H' h') (hg:AllBare g')
    (hch:∀ b∈ch,(b∈X.ex∨X.s₀.heap.objs.size≤b)∧b≠X.env.locals∧(∀ x c,X.env.cells.lookup x=some c→c≠b)∧∀ p∈X.pn++pins,p.1≠b) :
    Inv X pins σ H' { s with heap:=h',gens:=g',drawn:=d',toks:=t' }:=by
  obtain ⟨m,⟨o,es,ep,ho,r⟩,_⟩:=id I.loc
  obtain ⟨sl,hL⟩:=u.any ho I.free fun z=>(hch _ z).2.1 rfl
  exact I.step (ch:=ch) hch (fun b o hL hb hc e n=>u.keep b o e n (fun z=>(List.mem_cons.mp (I.stkSub b z)).elim hL hb) hc) (fun b o _ _ hc e n=>u.any e n hc) (fun b o hc e n=>u.free b o e n hc) (fun b o hc e=>u.there b o e hc) u.tups u.frzs u.tbls (fun m' hm=>by
    obtain ⟨o',es',ep',ho',r'⟩:=hm
    rw [ho] at ho'; cases ho'
    exact ⟨_,es',ep',hL,r'⟩) hok hg
theorem Inv.turned {t':Nat} {it:Addr} (I:Inv X pins σ H s) (k:∀ b o,b≠it→s.heap.get? b=some o→h'.get? b=some o) (hn:H it=none) (hL:it≠X.env.locals)
    (h1:it∈X.ex∨X.s₀.heap.objs.size≤it) (h2:∀ x c,X.env.cells.lookup x=some c→c≠it) (h3:∀ p∈X.pn++pins,p.1≠it):Inv X pins σ H { s with heap:=h',toks:=t' }:=by
  have nit:∀ b u,H b=some u→b≠it:=fun b u e z=>by rw [z,hn] at e; cases e
  refine I.step (g':=s.gens) (d':=s.drawn) (ch:=[it]) (fun b hb=>?_) (fun b o _ _ hc e _=>k b o (fun z=>hc (by simp [z])) e) (fun b o _ _ hc e _=>⟨o.slots,k b o (fun z=>hc (by simp [z])) e⟩) (fun _ _ _ _ n=>n)
    (fun b o hc e=>⟨o,k b o (fun z=>hc (by simp [z])) e⟩) (fun _ _ e=>e) (fun _ _ _ e=>e) (fun b ps e=>(by rw [e])) (fun m hm=>?_) (fun b u e=>?_) I.bare
  · have e:b=it:=by simpa using hb
    subst e
    exact ⟨h1,hL,h2,h3⟩
  · obtain ⟨o,es,ep,ho,r⟩:=hm
    exact ⟨o,es,ep,k _ o (Ne.symm hL) ho,r⟩
  · refine (I.hok b u e).stay (fun c v hc q=>k c v ?_ q) (fun _ q=>q) fun _ _ q=>q
    rcases hc with z | z
    · rw [z]; exact nit b u e
    · exact nit c _ z
theorem Inv.tok (I:Inv X pins σ H s) (t:Nat):Inv X pins σ H { s with toks:=t }:=I.un (h':=s.heap) (t':=t) Un.refl I.hok
theorem Inv.kept {t':Nat} (I:Inv X pins σ H s) (k:∀ b u,s.heap.get? b=some u→h'.get? b=some u):Inv X pins σ H { s with heap:=h',toks:=t' }:=I.un (Un.kept k) (I.hok.kept k)
theorem Inv.laid {a:Addr} {o:HO} {t':Nat} (I:Inv X pins σ H s) (k:∀ b u,s.heap.get? b=some u→h'.get? b=some u) (hp:s.heap.objs.size≤a) (new:ObjOk X.prog X.w (upd H a o) h' a o) :
    Inv X pins σ (upd H a o) { s with heap:=h',toks:=t' }:=I.un (Un.laid k hp (I.hok.fresh hp)) (I.hok.laid k hp new)
theorem Inv.write {x e:Addr} {o:HO} {t':Nat} (I:Inv X pins σ H s) (mu:Mut (H x)) (he:e=x∨H e=some (.own x)) (k:∀ b u,b≠e→s.heap.get? b=some u→h'.get? b=some u) (heo:∃ u,h'.get? e=some u)
    (new:ObjOk X.prog X.w (upd H x o) h' x o):Inv X pins σ (upd H x o) { s with heap:=h',toks:=t' }:=I.un (Un.write mu he k heo) (I.hok.write mu he k heo new)
theorem Inv.weak {σ':List (Option V)} (I:Inv X pins σ H s) (hl:σ'.length=σ.length) (w:∀ (i:Nat) v,σ'[i]?=some (some v)→σ[i]?=some (some v)):Inv X pins σ' H s :=
  ⟨I.ok,I.os,I.bare,I.base,let ⟨m,hn,hl'⟩:=I.loc; ⟨m,hn,fun i x v e1 e2 e3=>hl' i x v e1 (w i v e2) e3⟩,I.cell,I.free,I.freeC,I.pin,I.hok,hl.trans I.len⟩
theorem Inv.pins_of {pins':List (Addr×Obj)} (I:Inv X pins σ H s) (h:∀ p∈pins',s.heap.get? p.1=some p.2∧H p.1=none∧p.1≠X.env.locals∧p.1∉X.fs∧∀ v,p.2.data≠.cell v):Inv X pins' σ H s :=
  ⟨I.ok,I.os,I.bare,I.base,I.loc,I.cell,I.free,I.freeC,fun p hp=>(List.mem_append.mp hp).elim (fun z=>I.pin p (List.mem_append_left _ z)) (h p),I.hok,I.len⟩
theorem nodup_ix {N:List Str} (hN:N.Nodup) {i j:Nat} {x:Str} (a:N[i]?=some x) (b:N[j]?=some x):i=j:=by
  obtain ⟨h1,e1⟩:=List.getElem?_eq_some_iff.mp a
  obtain ⟨h2,e2⟩:=List.getElem?_eq_some_iff.mp b
  exact (List.getElem_inj hN).mp (e1.trans e2.symm)
theorem store_ok2 {M:Model} {A:Around} {E:Value→Shared→Prop} {i:Nat} {x:Str} {v:V} {u:Value} {Q:Unit→Shared→Prop} (I:Inv X pins σ H s) (hN:X.N.Nodup) (hi:X.N[i]?=some x) (hx:Loc X.env.scope x) (r:RelV v u)
    (h:∀ s',Inv X pins (σ.set i (some v)) H s'→(∃ a,Heap.SameBut a s.heap s'.heap∧(a=X.env.locals∨X.env.cells.lookup x=some a))→Q () s') (hf:X.fn x=true∨X.env.scope.names.lookup x=some .local:=by first | exact .inl rfl | exact .inr rfl | assumption):wpAny M A (storeName X.env x u) Q E s:=by
  obtain ⟨m,hn,hl⟩:=id I.loc
  have hcls:(X.env.scope.kind==.class || (X.env.scope.kind==.module && X.env.locals != X.env.globals))=false:=by rw [I.ok.kind]; rfl
  have hiσ:i<σ.length:=by rw [I.len]; exact (List.getElem?_eq_some_iff.mp hi).1
  have cne:=I.cne
  have tracked:∀ {a:Addr} {h':Heap},(∃ o,s.heap.get? a=some o∧H a=none)→Heap.SameBut a s.heap h'→HOk X.prog X.w H h':=fun {a h'} ha hs b ob e=>by
    obtain ⟨_,_,hfree⟩:=ha
    refine (I.hok b ob e).stay (fun c w' hc q=>(hs.2 c ?_).trans q) (fun _ q=>q) fun _ _ q=>q
    rintro rfl
    rcases hc with rfl | hc
    · rw [hfree] at e; cases e
    · rw [hfree] at hc; cases hc
  rcases hx with hk | hk
  · refine wpAny_storeName_local hk hn (fun h' hn' hs=>?_) hcls
    obtain ⟨oL,_,_,hoL,_⟩:=id hn
    refine h _ ⟨I.ok,I.os,I.bare,⟨fun b o e n hb hx=>?_,fun b o e n hb hx=>?_,I.base.free,fun b o e hx=>?_,I.base.tups,I.base.frzs,I.base.tbls⟩,⟨_,hn',fun j y v' e1 e2 e3=>?_⟩,fun y c e=>?_,I.free,I.freeC,fun p hp=>?_,tracked ⟨oL,hoL,I.free⟩ hs,by simpa using I.len⟩ ⟨_,hs,.inl rfl⟩
    · exact (hs.2 b (Nat.ne_of_lt (Nat.lt_of_lt_of_le (Heap.lt_size e) I.ok.above))).trans (I.base.keep b o e n hb hx)
    · obtain ⟨sl,e1⟩:=I.base.slot b o e n hb hx
      exact ⟨sl,(hs.2 b (Nat.ne_of_lt (Nat.lt_of_lt_of_le (Heap.lt_size e) I.ok.above))).trans e1⟩
    · obtain ⟨o',e1⟩:=I.base.there b o e hx
      exact ⟨o',(hs.2 b (Nat.ne_of_lt (Nat.lt_of_lt_of_le (Heap.lt_size e) I.ok.above))).trans e1⟩
    · by_cases hj:j=i
      · subst hj
        rw [hi] at e1; cases e1
        rw [List.getElem?_set_self hiσ] at e2
        cases e2
        exact ⟨u,r,.inl ⟨hk,by simp⟩⟩
      · rw [List.getElem?_set_ne (Ne.symm hj)] at e2
        obtain ⟨u',r',q⟩:=hl j y v' e1 e2 e3
        refine ⟨u',r',?_⟩
        rcases q with ⟨k,e⟩ | ⟨k,c,e,z⟩
        · refine .inl ⟨k,?_⟩
          have:y≠x:=fun e=>hj (nodup_ix hN e1 (e ▸ hi))
          simp [this,e]
        · exact .inr ⟨k,c,e,z.sameBut hs (cne y c e)⟩
    · obtain ⟨w',z⟩:=I.cell y c e
      exact ⟨w',z.sameBut hs (cne y c e)⟩
    · obtain ⟨e,n,ne,nf,d⟩:=I.pin p hp
      exact ⟨(hs.2 p.1 ne).trans e,n,ne,nf,d⟩
  · have hfn:X.fn x=true:=by
      rcases hf with z | z
      · exact z
      · rw [z] at hk; cases hk
    obtain ⟨c,hc⟩:=I.ok.has x (.inl hk)
    obtain ⟨w',z⟩:=I.cell x c hc
    refine wpAny_storeName_cell I.ok.kind hk hc z (fun h' hc' hs=>?_)
    obtain ⟨oc,hoc,hocd⟩:=id z
    refine h { s with heap:=h' } ⟨I.ok,I.os,I.bare,⟨fun b o e n hb hx=>?_,fun b o e n hb hx=>?_,I.base.free,fun b o e hx=>?_,I.base.tups,I.base.frzs,I.base.tbls⟩,⟨m,hn.sameBut hs (Ne.symm (cne x c hc)),fun j y v' e1 e2 e3=>?_⟩,fun y c' e=>?_,I.free,I.freeC,fun p hp=>?_,tracked ⟨oc,hoc,I.freeC x c hc⟩ hs,by simpa using I.len⟩ ⟨c,hs,.inr hc⟩
    · exact (hs.2 b (Nat.ne_of_lt (Nat.lt_of_lt_of_le (Heap.lt_size e) (I.ok.cab x c hfn hc)))).trans (I.base.keep b o e n hb hx)
    · obtain ⟨sl,e1⟩:=I.base.slot b o e n hb hx
      exact ⟨sl,(hs.2 b (Nat.ne_of_lt (Nat.lt_of_lt_of_le (Heap.lt_size e) (I.ok.cab x c hfn hc)))).trans e1⟩
    · obtain ⟨o',e1⟩:=I.base.there b o e hx
      exact ⟨o',(hs.2 b (Nat.ne_of_lt (Nat.lt_of_lt_of_le (Heap.lt_size e) (I.ok.cab x c hfn hc)))).trans e1⟩
    · by_cases hj:j=i
      · subst hj
        rw [hi] at e1; cases e1
        rw [List.getElem?_set_self hiσ] at e2
        cases e2
        exact ⟨u,r,.inr ⟨.inl hk,c,hc,hc'⟩⟩
      · rw [List.getElem?_set_ne (Ne.symm hj)] at e2
        obtain ⟨u',r',q⟩:=hl j y v' e1 e2 e3
        refine ⟨u',r',?_⟩
        rcases q with q | ⟨k,c',e,z'⟩
        · exact .inl q
        · refine .inr ⟨k,c',e,z'.sameBut hs ?_⟩
          rintro rfl
          exact hj (nodup_ix hN e1 (I.ok.inj _ _ _ e hc ▸ hi))
    · by_cases hcc:c'=c
      · subst hcc; exact ⟨_,hc'⟩
      · obtain ⟨w2,z2⟩:=I.cell y c' e
        exact ⟨w2,z2.sameBut hs hcc⟩
    · obtain ⟨e,n,ne,nf,d⟩:=I.pin p hp
      refine ⟨(hs.2 p.1 ?_).trans e,n,ne,nf,d⟩
      intro q
      rw [q,hoc] at e
      have q':oc=p.2:=Option.some.inj e
      exact d w' (by rw [← q']; exact hocd)
theorem store_ok {M:Model} {A:Around} {E:Value→Shared→Prop} {i:Nat} {x:Str} {v:V} {u:Value} {Q:Unit→Shared→Prop} (I:Inv X pins σ H s) (hN:X.N.Nodup) (hi:X.N[i]?=some x) (hx:Loc X.env.scope x) (r:RelV v u)
    (h:∀ s',Inv X pins (σ.set i (some v)) H s'→Q () s') (hf:X.fn x=true∨X.env.scope.names.lookup x=some .local:=by first | exact .inl rfl | exact .inr rfl | assumption):wpAny M A (storeName X.env x u) Q E s :=
  store_ok2 I hN hi hx r (fun s' I' _=>h s' I') hf
theorem Inv.call' {s':Shared} {ch:List Addr} (I:Inv X pins σ H s) (ho:s'.os=s.os) (u:Un (frs X.stack) ch H H' s.heap s'.heap) (hok:HOk X.prog X.w H' s'.heap) (hg:AllBare s'.gens)
    (hch:∀ b∈ch,(b∈X.ex∨X.s₀.heap.objs.size≤b)∧b≠X.env.locals∧(∀ x c,X.env.cells.lookup x=some c→c≠b)∧∀ p∈X.pn++pins,p.1≠b):Inv X pins σ H' s':=by
  obtain ⟨h',g',d',t',o'⟩:=s'
  have e:o'=s.os:=ho
  subst e
  exact I.call (g':=g') (t':=t') (d':=d') u hok hg hch
end
abbrev XK:=Value→Option Addr→Hp→Prop
abbrev St:=List (Option V)
abbrev VK:=V→Hp→Prop
abbrev TE:=St→Hp→VK→Prop
abbrev TT:=St→Hp→(Bool→Hp→Prop)→Prop
abbrev TA:=St→Hp→(List V→Hp→Prop)→Prop
structure Ends where
  nx:St→Hp→Prop
  rt:VK
  bk:St→Hp→Prop:=fun _ _=>False
  ct:St→Hp→Prop:=fun _ _=>False
abbrev TS:=Ends→St→Hp→Prop
def EP (X:Cx) (pins:List (Addr×Obj)) (σ:St) (Q:VK) (u:Value) (s':Shared):Prop:=∃ v H',Inv X pins σ H' s'∧RelV v u∧Q v H'
def TP (X:Cx) (pins:List (Addr×Obj)) (σ:St) (Q:Bool→Hp→Prop) (b:Bool) (s':Shared):Prop:=∃ H',Inv X pins σ H' s'∧Q b H'
def AP (X:Cx) (pins:List (Addr×Obj)) (σ:St) (Q:List V→Hp→Prop) (us:List Value) (s':Shared):Prop:=∃ vs H',Inv X pins σ H' s'∧Vals vs us∧Q vs H'
def SP (X:Cx) (pins:List (Addr×Obj)) (D:Ends) (f:Flow) (s':Shared):Prop :=
  match f with
  | .next=>∃ σ' H',Inv X pins σ' H' s'∧D.nx σ' H'
  | .brk=>∃ σ' H',Inv X pins σ' H' s'∧D.bk σ' H'
  | .cont=>∃ σ' H',Inv X pins σ' H' s'∧D.ct σ' H'
  | .ret u=>∃ v σ' H',Inv X pins σ' H' s'∧RelV v u∧D.rt v H'
def PE (X:Cx) (e:Expr) (t:TE):Prop :=
  ∀ (pins:List (Addr×Obj)) (s:Shared) (σ:St) (H:Hp) (Q:VK),Inv X pins σ H s→t σ H Q→wpAny (model X.prog X.w) X.A (eval e X.env) (EP X pins σ Q) X.xe s
def PT (X:Cx) (e:Expr) (t:TT):Prop :=
  ∀ (pins:List (Addr×Obj)) (s:Shared) (σ:St) (H:Hp) (Q:Bool→Hp→Prop),Inv X pins σ H s→t σ H Q→wpAny (model X.prog X.w) X.A (isTrue e X.env (eval e X.env)) (TP X pins σ Q) X.xe s
def PW (X:Cx) (e:Expr) (t:TT):Prop :=
  ∀ (whole:Sem Value) (pins:List (Addr×Obj)) (s:Shared) (σ:St) (H:Hp) (Q:Bool→Hp→Prop),Inv X pins σ H s→t σ H Q→wpAny (model X.prog X.w) X.A (isTrue e X.env whole) (TP X pins σ Q) X.xe s
theorem PW.pt {X:Cx} {e:Expr} {t:TT} (h:PW X e t):PT X e t:=h _
def PA (X:Cx) (es:List Expr) (t:TA):Prop :=
  ∀ (pos:Pos) (pins:List (Addr×Obj)) (s:Shared) (σ:St) (H:Hp) (Q:List V→Hp→Prop),Inv X pins σ H s→t σ H Q→wpAny (model X.prog X.w) X.A (spliced (backTo pos (starEach es X.env))) (AP X pins σ Q) X.xe s
def PS (X:Cx) (st:Stmt) (t:TS):Prop :=
  ∀ (pins:List (Addr×Obj)) (s:Shared) (σ:St) (H:Hp) (D:Ends),Inv X pins σ H s→t D σ H→wpAny (model X.prog X.w) X.A (exec st X.env) (SP X pins D) X.xe s
def PSs (X:Cx) (st:List Stmt) (t:TS):Prop :=
  ∀ (pins:List (Addr×Obj)) (s:Shared) (σ:St) (H:Hp) (D:Ends),Inv X pins σ H s→t D σ H→wpAny (model X.prog X.w) X.A (execs st X.env) (SP X pins D) X.xe s
theorem thn {α:Type} {t:Sem α} {Q Q':α→Shared→Prop} {M:Model} {A:Around} {E:Value→Shared→Prop} {s:Shared} (h:wpAny M A t Q E s) (hQ:∀ a s,Q a s→Q' a s):wpAny M A t Q' E s:=wpAny_mono h hQ fun _ _ x=>x
end L2
namespace L2
open PySem PySem.Spec PyProof.Rows
section
variable {X:Cx}
def tVar (i:Nat):TE:=fun σ H Q=>∃ v,σ[i]?=some (some v)∧Q v H
def tC (v:V):TE:=fun _ H Q=>Q v H
theorem pe_var {i:Nat} {x:Str} {pos:Pos} (hN:X.N[i]?=some x) (hv:Vis X.env.scope x) (hd:(x==("__debug__" : Str))=false:=by decide) (hcd:(x==("__classdict__" : Str))=false:=by decide):PE X (.Name x pos) (tVar i):=by
  intro pins s σ H Q I h
  obtain ⟨v,e,h⟩:=h
  obtain ⟨m,hn,hl⟩:=I.loc
  obtain ⟨u,r,l⟩:=hl i x v hN e hv
  have fin:EP X pins σ Q u s:=⟨v,H,I,r,h⟩
  rcases l with ⟨hk,hm⟩ | ⟨hk,c,hc,hcell⟩
  · exact wpAny_Name (wpAny_loadName_local I.ok.kind hk hn hm fin) hd
  · rcases hk with hk | hk
    · exact wpAny_Name (wpAny_loadName_cell I.ok.kind hk hc hcell fin) hd
    · exact wpAny_Name (wpAny_loadName_free I.ok.kind hk hc hcell fin hcd) hd
theorem pe_int {i j pos}:PE X (.Constant (.int i) j pos) (tC (.int i)):=fun _ _ _ H _ I h=>wpAny_Constant_int ⟨.int i,H,I.tok _,⟨_,rfl⟩,h⟩
theorem pe_bl {b j pos}:PE X (.Constant (.bool b) j pos) (tC (.bl b)):=fun _ _ _ H _ I h=>Constant_bool ⟨.bl b,H,I,rfl,h⟩
theorem pe_non {j pos}:PE X (.Constant .none j pos) (tC .non):=fun _ _ _ H _ I h=>Constant_none ⟨.non,H,I,rfl,h⟩
theorem pe_str {x j pos}:PE X (.Constant (.str x) j pos) (tC (.str x)):=fun _ _ _ H _ I h=>Calls.Constant_str ⟨.str x,H,I.tok _,⟨_,rfl⟩,h⟩
def Gl (X:Cx) (x:Str):Prop:=X.env.kindOf x=some .globalImplicit
theorem ld_glob {E:Value→Shared→Prop} {pins:List (Addr×Obj)} {s:Shared} {σ:St} {H:Hp} {x:Str} {u:Value} {pos:Pos} {Q:Value→Shared→Prop} (I:Inv X pins σ H s) (hg:Gl X x) (hm:X.mg x=some u) (h:Q u s)
    (hd:(x==("__debug__" : Str))=false:=by decide):wpAny (model X.prog X.w) X.A (eval (.Name x pos) X.env) Q E s :=
  Calls.Name_function_global I.ok.kind hg (Calls.loadGlobal_global (by rw [I.ok.glob]; exact I.mod.glob.keeps I.bk) hm h) hd
theorem ld_blt {E:Value→Shared→Prop} {pins:List (Addr×Obj)} {s:Shared} {σ:St} {H:Hp} {x:Str} {u:Value} {pos:Pos} {Q:Value→Shared→Prop} (I:Inv X pins σ H s) (hg:Gl X x) (hm:X.mg x=none) (hv:bootBuiltins x=some u) (h:Q u s)
    (hn:x ≠ "__name__" := by decide) (hd:(x==("__debug__" : Str))=false:=by decide):wpAny (model X.prog X.w) X.A (eval (.Name x pos) X.env) Q E s:=by
  obtain ⟨mb,h1,h2⟩:=I.mod.blt
  exact Calls.Name_function_global I.ok.kind hg (Calls.loadGlobal_builtin (by rw [I.ok.glob]; exact I.mod.glob.keeps I.bk) hm (by rw [I.ok.blt]; exact h1.keeps I.bk) ((h2 x hn).trans hv) h) hd
theorem pe_glob {x:Str} {v:V} {u:Value} {pos:Pos} (hg:Gl X x) (hm:X.mg x=some u) (r:RelV v u) (hd:(x==("__debug__" : Str))=false:=by decide):PE X (.Name x pos) (tC v) :=
  fun _ _ _ H _ I h=>ld_glob I hg hm ⟨v,H,I,r,h⟩ hd
theorem pe_bltn {x:Str} {v:V} {u:Value} {pos:Pos} (hg:Gl X x) (hm:X.mg x=none) (hv:bootBuiltins x=some u) (r:RelV v u) (hn:x ≠ "__name__" := by decide) (hd:(x==("__debug__" : Str))=false:=by decide):PE X (.Name x pos) (tC v) :=
  fun _ _ _ H _ I h=>ld_blt I hg hm hv ⟨v,H,I,r,h⟩ hn hd
variable {a b:Expr} {ta tb:TE} {pos:Pos}
def PC (X : Cx) (op : CmpOp) (a b : Expr) (t : TE) : Prop :=
  ∀ (pins:List (Addr×Obj)) (s:Shared) (σ:St) (H:Hp) (Q:VK),Inv X pins σ H s→t σ H Q →
    wpAny (model X.prog X.w) X.A (eval a X.env) (fun v s₁=>wpAny (model X.prog X.w) X.A (eval b X.env) (fun u s₂=>wpAny (model X.prog X.w) X.A (compareOp op v u) (EP X pins σ Q) X.xe s₂) X.xe s₁) X.xe s
def tB (t:TE):TT:=fun σ H Q=>t σ H fun x H1=>∃ c,x=.bl c∧Q c H1
theorem pt_cmp {op:CmpOp} {t:TE} (h:PC X op a b t) (h1:behindInMarks op b=false:=by first | exact nobehind _ (by decide) (by decide) | rfl):PT X (.Compare a [op] [b] pos) (tB t):=by
  intro pins s σ H Q I hw
  refine wpAny_isTrue_Compare1 (thn (h pins s σ H _ I hw) fun v s1 h1=>thn h1 fun u s2 h2=>thn h2 fun c s3 ⟨x,H1,I1,r1,q1⟩=>?_) h1
  obtain ⟨d,rfl,q⟩:=q1
  cases r1
  exact wpAny_truthy_bool ⟨H1,I1,q⟩
theorem pt_val {e:Expr} {t:TE} (h:PE X e t) (he:∀ whole,isTrue e X.env whole=(do let v ← whole; standAt e.pos; holding [v] (truthy v)):=by intro _; rfl):PT X e (tB t):=by
  intro pins s σ H Q I hw
  refine isTrue_plain (thn (h pins s σ H _ I hw) fun v s1 ⟨x,H1,I1,r1,q1⟩=>?_) (he _)
  obtain ⟨d,rfl,q⟩:=q1
  cases r1
  exact wpAny_truthy_bool ⟨H1,I1,q⟩
variable {tA tB':TT} {rest:List Expr}
def tAnd (t u:TT):TT:=fun σ H Q=>t σ H fun c H1=>if c=true then u σ H1 Q else Q false H1
def tOr (t u:TT):TT:=fun σ H Q=>t σ H fun c H1=>if c=true then Q true H1 else u σ H1 Q
def tNot (t:TT):TT:=fun σ H Q=>t σ H fun c H1=>Q (!c) H1
theorem pw_and1 (ha:PT X a tA):PW X (.BoolOp .And [a] pos) tA:=by
  intro wh pins s σ H Q I h
  refine isTrue_and (thn (ha pins s σ H Q I h) fun c s1 e=>?_)
  cases c with
  | true=>exact isTrue_and_nil e
  | false=>exact e
theorem pw_or1 (ha:PT X a tA):PW X (.BoolOp .Or [a] pos) tA:=by
  intro wh pins s σ H Q I h
  refine isTrue_or (thn (ha pins s σ H Q I h) fun c s1 e=>?_)
  cases c with
  | false=>exact isTrue_or_nil e
  | true=>exact e
theorem pw_and (ha:PT X a tA) (hb:PW X (.BoolOp .And (b::rest) pos) tB'):PW X (.BoolOp .And (a::b::rest) pos) (tAnd tA tB'):=by
  intro wh pins s σ H Q I h
  refine isTrue_and (thn (ha pins s σ H _ I h) fun c s1 ⟨H1,I1,q1⟩=>?_)
  cases c with
  | true=>exact hb wh pins s1 σ H1 Q I1 q1
  | false=>exact ⟨H1,I1,q1⟩
theorem pw_or (ha:PT X a tA) (hb:PW X (.BoolOp .Or (b::rest) pos) tB'):PW X (.BoolOp .Or (a::b::rest) pos) (tOr tA tB'):=by
  intro wh pins s σ H Q I h
  refine isTrue_or (thn (ha pins s σ H _ I h) fun c s1 ⟨H1,I1,q1⟩=>?_)
  cases c with
  | true=>exact ⟨H1,I1,q1⟩
  | false=>exact hb wh pins s1 σ H1 Q I1 q1
theorem pt_not (ha:PT X a tA):PT X (.UnaryOp .Not a pos) (tNot tA):=by
  intro pins s σ H Q I h
  exact isTrue_not (ha pins s σ H (fun c H1=>Q (!c) H1) I h)
def tAndV (ta tb:TE):TE:=fun σ H Q=>ta σ H fun x H1=>∃ c,x=.bl c∧if c=true then tb σ H1 Q else Q (.bl false) H1
def tOrV (ta tb:TE):TE:=fun σ H Q=>ta σ H fun x H1=>∃ c,x=.bl c∧if c=true then Q (.bl true) H1 else tb σ H1 Q
def tNotV (ta:TE):TE:=fun σ H Q=>ta σ H fun x H1=>∃ c,x=.bl c∧Q (.bl (!c)) H1
theorem pe_one {op} {t:TE} (h:PE X a t):PE X (.BoolOp op [a] pos) t:=fun pins s σ H Q I hw=>BoolOp_one (h pins s σ H Q I hw)
theorem pe_and (ha:PE X a ta) (hb:PE X (.BoolOp .And (b::rest) pos) tb):PE X (.BoolOp .And (a::b::rest) pos) (tAndV ta tb):=by
  intro pins s σ H Q I h
  refine BoolOp_and (thn (ha pins s σ H _ I h) fun v s1 ⟨x,H1,I1,r1,q1⟩=>?_)
  obtain ⟨c,rfl,q1⟩:=q1
  cases r1
  refine wpAny_truthy_bool ?_
  cases c with
  | true=>exact hb pins s1 σ H1 Q I1 q1
  | false=>exact ⟨.bl false,H1,I1,rfl,q1⟩
theorem pe_or (ha:PE X a ta) (hb:PE X (.BoolOp .Or (b::rest) pos) tb):PE X (.BoolOp .Or (a::b::rest) pos) (tOrV ta tb):=by
  intro pins s σ H Q I h
  refine BoolOp_or (thn (ha pins s σ H _ I h) fun v s1 ⟨x,H1,I1,r1,q1⟩=>?_)
  obtain ⟨c,rfl,q1⟩:=q1
  cases r1
  refine wpAny_truthy_bool ?_
  cases c with
  | false=>exact hb pins s1 σ H1 Q I1 q1
  | true=>exact ⟨.bl true,H1,I1,rfl,q1⟩
theorem pe_not (ha:PE X a ta):PE X (.UnaryOp .Not a pos) (tNotV ta):=by
  intro pins s σ H Q I h
  refine UnaryOp_ (thn (ha pins s σ H _ I h) fun v s1 ⟨x,H1,I1,r1,q1⟩=>?_)
  obtain ⟨c,rfl,q1⟩:=q1
  cases r1
  exact not_of (wpAny_truthy_bool ⟨.bl (!c),H1,I1,rfl,q1⟩)
def tIf (t:TT) (ta tb:TE):TE:=fun σ H Q=>t σ H fun c H1=>if c=true then ta σ H1 Q else tb σ H1 Q
theorem pe_ifExp {c:Expr} (hc:PT X c tA) (ha:PE X a ta) (hb:PE X b tb):PE X (.IfExp c a b pos) (tIf tA ta tb):=by
  intro pins s σ H Q I h
  refine wpAny_IfExp (thn (hc pins s σ H _ I h) fun d s1 ⟨H1,I1,q1⟩=>?_)
  cases d with
  | true=>exact ha pins s1 σ H1 Q I1 q1
  | false=>exact hb pins s1 σ H1 Q I1 q1
end
end L2
namespace L2
open PySem PySem.Spec PyProof.Rows
def SqL (K : PySem.W.Frag) (H : Hp) (a : Addr) (xs : List V) : Prop :=
  Rd H a (.lst xs) ∨
    ∃ (o:Obj) (its:Array Value) (n:Nat),K.lookup a=some o∧o.cls=.type "list" ∧ o.dict=none∧o.data=.seq its n∧its.size≤sizeLine∧Vals xs its.toList
def SqT (K : PySem.W.Frag) (H : Hp) (a : Addr) (xs : List V) : Prop :=
  Rd H a (.tup xs) ∨
    ∃ (o:Obj) (its:Array Value) (n:Nat),K.lookup a=some o∧o.cls=.type "tuple" ∧ o.data=.seq its n∧its.size≤sizeLine∧Vals xs its.toList
def absV:Value→Option V
  | .none=>some .non
  | .bool b=>some (.bl b)
  | .int i _=>some (.int i)
  | .str x _=>some (.str x)
  | .bytes b _=>some (.byt b)
  | .float b _=>some (.flt b)
  | .ref a=>some (.ref a)
  | .type n=>some (.ty n)
  | _=>none
theorem RelV.abs {x:V} {u:Value} (r:RelV x u):absV u=some x:=by
  cases x with
  | non=>cases r; rfl
  | bl _=>cases r; rfl
  | int _=>obtain ⟨t,rfl⟩:=r; rfl
  | str _=>obtain ⟨t,rfl⟩:=r; rfl
  | byt _=>obtain ⟨t,rfl⟩:=r; rfl
  | flt _=>obtain ⟨t,rfl⟩:=r; rfl
  | ref _=>cases r; rfl
  | ty _=>cases r; rfl
theorem RelV.inj {x y:V} {u:Value} (r:RelV x u) (q:RelV y u):x=y:=Option.some.inj (r.abs.symm.trans q.abs)
theorem Vals.inj:∀ {xs ys:List V} {us:List Value},Vals xs us→Vals ys us→xs=ys
  | _,_,_,.nil,.nil=>rfl
  | _,_,_,.cons r t,.cons r' t'=>by rw [r.inj r',Vals.inj t t']
section
variable {X:Cx} {pins:List (Addr×Obj)} {σ:St} {H:Hp} {s:Shared} {a:Addr} {xs ys:List V}
theorem SqL.of {K:PySem.W.Frag} (h:H a=some (.lst xs)):SqL K H a xs:=.inl (.inl h)
theorem SqT.of {K:PySem.W.Frag} (h:H a=some (.tup xs)):SqT K H a xs:=.inl (.inl h)
theorem Inv.list (I:Inv X pins σ H s) (h:SqL X.K H a xs):∃ its:List Value,Vals xs its∧PlainL s.heap a its.toArray∧xs.length≤sizeLine:=by
  rcases h with h | ⟨o,its,n,hk,hc,hd,hs,hz,r⟩
  · obtain ⟨z,its,n,r,e⟩:=h.ok I.hok
    exact ⟨its,r,⟨_,n,e,rfl,rfl,rfl⟩,z⟩
  · refine ⟨its.toList,r,⟨o,n,I.kIn a o hk,hc,hd,by simpa using hs⟩,?_⟩
    have e:=r.length
    simp only [Array.length_toList] at e
    omega
theorem Inv.tuple (I:Inv X pins σ H s) (h:SqT X.K H a xs):∃ its:List Value,Vals xs its∧IsTup s.heap a its.toArray∧xs.length≤sizeLine:=by
  rcases h with h | ⟨o,its,n,hk,hc,hs,hz,r⟩
  · obtain ⟨z,its,r,p⟩:=h.ok I.hok
    exact ⟨its,r,p,z⟩
  · refine ⟨its.toList,r,⟨o,I.kIn a o hk,hc,n,by simpa using hs⟩,?_⟩
    have e:=r.length
    simp only [Array.length_toList] at e
    omega
theorem Inv.list_inj (I:Inv X pins σ H s) (h:SqL X.K H a xs) (h':SqL X.K H a ys):xs=ys:=by
  obtain ⟨its,r,⟨o,n,e,_,_,d⟩,_⟩:=I.list h
  obtain ⟨its',r',⟨o',n',e',_,_,d'⟩,_⟩:=I.list h'
  rw [e] at e'; cases e'
  rw [d] at d'
  injection d' with d1 _
  have:its=its':=by simpa using congrArg Array.toList d1
  subst this
  exact r.inj r'
theorem Inv.tuple_inj (I:Inv X pins σ H s) (h:SqT X.K H a xs) (h':SqT X.K H a ys):xs=ys:=by
  obtain ⟨its,r,⟨o,e,_,n,d⟩,_⟩:=I.tuple h
  obtain ⟨its',r',⟨o',e',_,n',d'⟩,_⟩:=I.tuple h'
  rw [e] at e'; cases e'
  rw [d] at d'
  injection d' with d1 _
  have:its=its':=by simpa using congrArg Array.toList d1
  subst this
  exact r.inj r'
end
abbrev Cx.wish (X:Cx) (E:Value→Shared→Prop):Cx:={ X with xe:=E }
abbrev Cx.nox (X:Cx):Cx:=X.wish fun _ _=>False
theorem Cx.Ok.wish {X:Cx} (ok:X.Ok) (E:Value→Shared→Prop):(X.wish E).Ok :=
  ⟨ok.mod,ok.kind,ok.glob,ok.blt,ok.above,ok.inj,ok.has,ok.cab,ok.hd,ok.frames,ok.stk,ok.exf,ok.bs,ok.bsz,ok.noex,ok.exfs,ok.funs,ok.frf⟩
theorem Cx.Ok.unwish {X:Cx} {E:Value→Shared→Prop} (ok:(X.wish E).Ok):X.Ok :=
  ⟨ok.mod,ok.kind,ok.glob,ok.blt,ok.above,ok.inj,ok.has,ok.cab,ok.hd,ok.frames,ok.stk,ok.exf,ok.bs,ok.bsz,ok.noex,ok.exfs,ok.funs,ok.frf⟩
section
variable {X:Cx} {pins:List (Addr×Obj)} {σ:St} {H:Hp} {s:Shared} {E:Value→Shared→Prop}
theorem Inv.wish (I:Inv X pins σ H s) (E:Value→Shared→Prop):Inv (X.wish E) pins σ H s:=⟨I.ok.wish E,I.os,I.bare,I.base,I.loc,I.cell,I.free,I.freeC,I.pin,I.hok,I.len⟩
theorem Inv.unwish (I:Inv (X.wish E) pins σ H s):Inv X pins σ H s:=⟨I.ok.unwish,I.os,I.bare,I.base,I.loc,I.cell,I.free,I.freeC,I.pin,I.hok,I.len⟩
theorem SP.unwish {D:Ends} {f:Flow} {s':Shared} (h:SP (X.wish E) pins D f s'):SP X pins D f s':=by
  cases f with
  | next=>obtain ⟨σ',H',I,q⟩:=h; exact ⟨σ',H',I.unwish,q⟩
  | brk=>obtain ⟨σ',H',I,q⟩:=h; exact ⟨σ',H',I.unwish,q⟩
  | cont=>obtain ⟨σ',H',I,q⟩:=h; exact ⟨σ',H',I.unwish,q⟩
  | ret u=>obtain ⟨v,σ',H',I,r,q⟩:=h; exact ⟨v,σ',H',I.unwish,r,q⟩
theorem PSs.nox {st:List Stmt} {t:TS} (h:PSs X.nox st t):PSs X st t:=fun pins s σ H D I hw =>
  wpAny_mono (h pins s σ H D (I.wish _) hw) (fun _ _ q=>q.unwish) fun _ _ z=>False.elim z
end
section
variable {X:Cx} {st:Stmt} {rest:List Stmt} {t u:TS} {e:Expr} {te:TE} {pos:Pos}
def tNext:TS:=fun D σ H=>D.nx σ H
def tSeq (t u:TS):TS:=fun D σ H=>t { D with nx:=u D } σ H
theorem pss_nil:PSs X [] tNext:=fun _ _ σ H _ I h=>wpAny_execs_nil ⟨σ,H,I,h⟩
theorem pss_cons (h1:PS X st t) (h2:PSs X rest u):PSs X (st::rest) (tSeq t u):=by
  intro pins s σ H D I h
  refine wpAny_execs_cons (thn (h1 pins s σ H { D with nx:=u D } I h) fun f s1 q=>?_)
  cases f with
  | next =>
    obtain ⟨σ',H',I',q⟩:=q
    exact h2 pins s1 σ' H' D I' q
  | ret v=>exact q
  | brk=>exact q
  | cont=>exact q
theorem pss_one (h1:PS X st t):PSs X [st] t:=by
  intro pins s σ H D I h
  refine wpAny_execs_cons (thn (h1 pins s σ H D I h) fun f s1 q=>?_)
  cases f with
  | next=>exact wpAny_execs_nil q
  | ret v=>exact q
  | brk=>exact q
  | cont=>exact q
theorem Inv.quiet {pins:List (Addr×Obj)} {σ:St} {H:Hp} {s:Shared} (I:Inv X pins σ H s):interactive X.env=false:=by simp [interactive,I.ok.kind]
def tDrop (te:TE):TS:=fun D σ H=>te σ H fun _ H1=>D.nx σ H1
theorem ps_expr (he:PE X e te) (hs:swapsWith e none pos.line X.env=pure false:=by rfl):PS X (.Expr e pos) (tDrop te):=by
  intro pins s σ H D I h
  exact wpAny_Expr_any (thn (he pins s σ H _ I h) fun v s1 ⟨x,H1,I1,r1,q1⟩=>⟨σ,H1,I1,q1⟩) I.quiet hs
def tRet (te:TE):TS:=fun D σ H=>te σ H D.rt
theorem ps_ret (he:PE X e te):PS X (.Return (some e) pos) (tRet te):=by
  intro pins s σ H D I h
  exact wpAny_Return_some (thn (he pins s σ H _ I h) fun v s1 ⟨x,H1,I1,r1,q1⟩=>⟨x,σ,H1,I1,r1,q1⟩)
def tIfS (c:TT) (t u:TS):TS:=fun D σ H=>c σ H fun b H1=>if b=true then t D σ H1 else u D σ H1
theorem ps_if {c:Expr} {a b:List Stmt} {tc:TT} (hc:PT X c tc) (ha:PSs X a t) (hb:PSs X b u):PS X (.If c a b pos) (tIfS tc t u):=by
  intro pins s σ H D I h
  refine wpAny_If (thn (hc pins s σ H _ I h) fun d s1 ⟨H1,I1,q1⟩=>?_)
  cases d with
  | true=>exact ha pins s1 σ H1 D I1 q1
  | false=>exact hb pins s1 σ H1 D I1 q1
end
abbrev TG:=V→St→Hp→(St→Hp→Prop)→Prop
abbrev TGs:=List V→St→Hp→(St→Hp→Prop)→Prop
def PG (X : Cx) (target : Expr) (t : TG) : Prop :=
  ∀ (pins:List (Addr×Obj)) (s:Shared) (σ:St) (H:Hp) (v:V) (u:Value) (Q:St→Hp→Prop),Inv X pins σ H s→RelV v u→t v σ H Q →
    wpAny (model X.prog X.w) X.A (assign target X.env u) (fun _ s'=>∃ σ' H',Inv X pins σ' H' s'∧Q σ' H') X.xe s
def PGs (X : Cx) (ts : List Expr) (t : TGs) : Prop :=
  ∀ (pins:List (Addr×Obj)) (s:Shared) (σ:St) (H:Hp) (vs:List V) (us:List Value) (Q:St→Hp→Prop),Inv X pins σ H s→Vals vs us→t vs σ H Q →
    wpAny (model X.prog X.w) X.A (assignInOrder ((assignEach ts X.env).map (·.2)) us) (fun _ s'=>∃ σ' H',Inv X pins σ' H' s'∧Q σ' H') X.xe s
abbrev TSet:=V→V→V→Hp→(Hp→Prop)→Prop
def PSet (X : Cx) (t : TSet) : Prop :=
  ∀ (pins:List (Addr×Obj)) (s:Shared) (σ:St) (H:Hp) (o i v:V) (ov iv u:Value) (Q:Hp→Prop),Inv X pins σ H s→RelV o ov→RelV i iv→RelV v u→t o i v H Q →
    wpAny (model X.prog X.w) X.A (setItem ov iv u) (fun _ s'=>∃ H',Inv X pins σ H' s'∧Q H') X.xe s
abbrev TIp:=V→V→Hp→VK→Prop
def PIp (X : Cx) (op : Operator) (t : TIp) : Prop :=
  ∀ (pins:List (Addr×Obj)) (s:Shared) (σ:St) (H:Hp) (x y:V) (v u:Value) (Q:VK),Inv X pins σ H s→RelV x v→RelV y u→t x y H Q →
    wpAny (model X.prog X.w) X.A (inplaceOp op v u) (EP X pins σ Q) X.xe s
section
variable {X:Cx} {pos:Pos}
def gName (i:Nat):TG:=fun v σ H Q=>Q (σ.set i (some v)) H
theorem pg_name {i:Nat} {x:Str} (hN:X.N.Nodup) (hi:X.N[i]?=some x) (hx:Loc X.env.scope x) (hf:X.fn x=true∨X.env.scope.names.lookup x=some .local:=by first | exact .inl rfl | exact .inr rfl | assumption):PG X (.Name x pos) (gName i):=by
  intro pins s σ H v u Q I r h
  exact wpAny_assign_Name (store_ok I hN hi hx r (fun s' I'=>⟨_,H,I',h⟩) hf)
def gNil:TGs:=fun vs σ H Q=>vs=[]∧Q σ H
def gCons (t:TG) (u:TGs):TGs:=fun vs σ H Q=>∃ v r,vs=v::r∧t v σ H fun σ' H'=>u r σ' H' Q
theorem pgs_nil:PGs X [] gNil:=by
  intro pins s σ H vs us Q I r h
  obtain ⟨e,h⟩:=h
  subst e
  cases r
  exact assignInOrder_nil ⟨σ,H,I,h⟩
theorem pgs_cons {e:Expr} {es:List Expr} {t:TG} {u:TGs} (h1:PG X e t) (h2:PGs X es u)
    (hs:(assignEach (e::es) X.env).map (·.2)=assign e X.env::(assignEach es X.env).map (·.2):=by rfl):PGs X (e::es) (gCons t u):=by
  intro pins s σ H vs us Q I r h
  obtain ⟨v,vr,e1,h⟩:=h
  subst e1
  cases r with
  | cons r rr =>
    rw [hs]
    refine assignInOrder_cons (thn (h1 pins s σ H _ _ _ I r h) fun _ s1 ⟨σ1,H1,I1,q1⟩=>?_)
    exact h2 pins s1 σ1 H1 _ _ Q I1 rr q1
def gTup (K:PySem.W.Frag) (n:Nat) (t:TGs):TG:=fun v σ H Q=>∃ a xs,v=.ref a∧SqT K H a xs∧xs.length=n∧t xs σ H Q
theorem pg_tup {es:List Expr} {k:Nat} {t:TGs} {n:Nat} (hc:X.calm=true) (h:PGs X es t)
    (hn:(assignEach es X.env).length=n:=by rfl) (hst:(assignEach es X.env).findIdx? (·.1)=none:=by rfl):PG X (.Tuple es k pos) (gTup X.K n t):=by
  intro pins s σ H v u Q I r hw
  obtain ⟨a,xs,e1,hq,hl,hw⟩:=hw
  subst e1
  cases r
  obtain ⟨its,rv,ht,hz⟩:=I.tuple hq
  refine assignH (I.hb hc) (show s.heap.IsTuple a its.toArray from ht) (by simp [hn,← hl,rv.length]) hst fun h' hx=>?_
  have I1:Inv X pins σ H { s with heap:=h' }:=I.kept (t':=s.toks) fun b o e=>hx b o (Nat.ne_of_lt (Heap.lt_size e)) e
  exact h pins _ σ H xs _ Q I1 (by simpa using rv) hw
def gSub (to ti:TE) (t:TSet):TG:=fun v σ H Q=>to σ H fun o H1=>ti σ H1 fun i H2=>t o i v H2 fun H3=>Q σ H3
theorem pg_sub {o i:Expr} {to ti:TE} {t:TSet} (ho:PE X o to) (hi:PE X i ti) (hs:PSet X t)
    (ha:∀ v,assign (.Subscript o i pos) X.env v=(do
      let ov ← holding [v] (eval o X.env)
      let iv ← holding [v,ov] (eval i X.env)
      standAt pos
      holding [v,ov,iv] (setItem ov iv v)
      release [v,ov,iv] []):=by intro _; rfl):PG X (.Subscript o i pos) (gSub to ti t):=by
  intro pins s σ H v u Q I r h
  rw [ha]
  refine wpAny_bind (wpAny_holding (thn (ho pins s σ H _ I h) fun ov s1 ⟨x,H1,I1,r1,q1⟩=>?_))
  refine wpAny_bind (wpAny_holding (thn (hi pins s1 σ H1 _ I1 q1) fun iv s2 ⟨y,H2,I2,r2,q2⟩=>?_))
  refine wpAny_bind (wpAny_standAt (wpAny_bind (wpAny_holding (thn (hs pins s2 σ H2 x y v ov iv u _ I2 r1 r2 r q2) fun _ s3 ⟨H3,I3,q3⟩=>?_))))
  exact wpAny_release ⟨σ,H3,I3,q3⟩
def tAsg (te:TE) (g:TG):TS:=fun D σ H=>te σ H fun x H1=>g x σ H1 D.nx
theorem ps_asg {tg e:Expr} {te:TE} {g:TG} (he:PE X e te) (hg:PG X tg g) (hs:swapsWithSole [tg] e pos.line X.env=pure false:=by rfl) (hw:swappedStores [tg] e X.env=pure none:=by rfl)
    (h1:(assignEach [tg] X.env).map (·.2)=[assign tg X.env]:=by rfl):PS X (.Assign [tg] e pos) (tAsg te g):=by
  intro pins s σ H D I h
  refine wpAny_Assign_stores (thn (he pins s σ H _ I h) fun v s1 ⟨x,H1,I1,r1,q1⟩=>?_) hs hw
  rw [h1]
  exact thn (hg pins s1 σ H1 x v _ I1 r1 q1) fun _ s2 q=>q
theorem ps_set {i:Nat} {x:Str} {e:Expr} {te:TE} {pos':Pos} (hN:X.N.Nodup) (hi:X.N[i]?=some x) (hx:Loc X.env.scope x) (he:PE X e te) (hs:swapsWith e (some (.Name x pos')) pos.line X.env=pure false:=by rfl) (hf:X.fn x=true∨X.env.scope.names.lookup x=some .local:=by first | exact .inl rfl | exact .inr rfl | assumption) :
    PS X (.Assign [.Name x pos'] e pos) (tAsg te (gName i)):=by
  intro pins s σ H D I h
  refine wpAny_Assign_Name (thn (he pins s σ H _ I h) fun v s1 ⟨y,H1,I1,r1,q1⟩=>?_) hs
  exact store_ok I1 hN hi hx r1 (fun s2 I2=>⟨_,H1,I2,q1⟩) hf
def tAug (i:Nat) (te:TE) (ti:TIp):TS:=fun D σ H=>∃ x,σ[i]?=some (some x)∧te σ H fun y H1=>ti x y H1 fun z H2=>D.nx (σ.set i (some z)) H2
theorem ps_aug {i:Nat} {x:Str} {e:Expr} {te:TE} {op:Operator} {ti:TIp} {pos':Pos} (hN:X.N.Nodup) (hi:X.N[i]?=some x) (hx:Loc X.env.scope x) (he:PE X e te) (ho:PIp X op ti) (hf:X.fn x=true∨X.env.scope.names.lookup x=some .local:=by first | exact .inl rfl | exact .inr rfl | assumption) :
    PS X (.AugAssign (.Name x pos') op e pos) (tAug i te ti):=by
  intro pins s σ H D I h
  obtain ⟨v,e1,h⟩:=h
  obtain ⟨m,hn,hl⟩:=I.loc
  have vis:Vis X.env.scope x:=by rcases hx with k | k; exact .inl k; exact .inr (.inl k)
  obtain ⟨u,r,l⟩:=hl i x v hi e1 vis
  refine wpAny_AugAssign_Name ?_
  have go:wpAny (model X.prog X.w) X.A (eval e X.env) (fun w s₂=>wpAny (model X.prog X.w) X.A (inplaceOp op u w) (fun r s₃=>wpAny (model X.prog X.w) X.A (storeName X.env x r) (fun _=>SP X pins D .next) X.xe s₃) X.xe s₂) X.xe s:=by
    refine thn (he pins s σ H _ I h) fun w s1 ⟨y,H1,I1,r1,q1⟩=>?_
    refine thn (ho pins s1 σ H1 v y u w _ I1 r r1 q1) fun z s2 ⟨zv,H2,I2,r2,q2⟩=>?_
    exact store_ok I2 hN hi hx r2 (fun s3 I3=>⟨_,H2,I3,q2⟩) hf
  rcases l with ⟨hk,hm⟩ | ⟨hk,c,hc,hcell⟩
  · exact wpAny_loadName_local I.ok.kind hk hn hm go
  · rcases hk with hk | hk
    · exact wpAny_loadName_cell I.ok.kind hk hc hcell go
    · rcases hx with k | k
      · have:X.env.scope.names.lookup x=some .free:=hk
        rw [k] at this; cases this
      · have:X.env.scope.names.lookup x=some .free:=hk
        rw [k] at this; cases this
def ipI (f:Int→Int→Int):TIp:=fun x y H Q=>∃ i j,x=.int i∧y=.int j∧Q (.int (f i j)) H
theorem ip_add:PIp X .Add (ipI fun i j=>i+j):=by
  intro pins s σ H x y v u Q I r1 r2 h
  obtain ⟨i,j,e1,e2,q⟩:=h
  subst e1; subst e2
  obtain ⟨t,rfl⟩:=r1
  obtain ⟨t',rfl⟩:=r2
  exact iadd_int ⟨.int _,H,I.tok _,⟨_,rfl⟩,q⟩
end
section
variable {X:Cx} {pos:Pos}
def tWhile (c:TT) (tb:TS):TS:=fun D σ H=>∃ W:Nat→St→Hp→Prop,(∃ m,W m σ H)∧∀ m σ H,W m σ H →
  c σ H fun b H1=>if b=true then ∃ N:St→Hp→Prop,(∀ σ' H',N σ' H'→∃ m',m'<m∧W m' σ' H')∧tb { D with nx:=N,ct:=N,bk:=D.nx } σ H1 else D.nx σ H1
theorem ps_while {c:Expr} {body:List Stmt} {tc:TT} {tb:TS} (hp:PassesOwn (model X.prog X.w) X.A X.env X.xe) (hc:PT X c tc) (hb:PSs X body tb):PS X (.While c body [] pos) (tWhile tc tb):=by
  intro pins s σ H D I h
  obtain ⟨W,⟨m0,w0⟩,turn⟩:=h
  refine wpAny_While (codeAny_whileLoop (fun n s'=>∃ σ' H',Inv X pins σ' H' s'∧W n σ' H') ?_ m0 ⟨σ,H,I,w0⟩)
  rintro n s1 ⟨σ1,H1,I1,w1⟩
  refine wpAny_passesOwn hp (thn (hc pins s1 σ1 H1 _ I1 (turn n σ1 H1 w1)) fun b s2 ⟨H2,I2,q2⟩=>?_)
  cases b with
  | true =>
    obtain ⟨N,hN,q2⟩:=q2
    rw [if_pos rfl]
    refine wpAny_passesOwn hp (thn (hb pins s2 σ1 H2 _ I2 q2) fun f s3 q3=>?_)
    cases f with
    | next =>
      obtain ⟨σ3,H3,I3,n3⟩:=q3
      obtain ⟨m',hm,w3⟩:=hN σ3 H3 n3
      exact ⟨m',hm,σ3,H3,I3,w3⟩
    | cont =>
      obtain ⟨σ3,H3,I3,n3⟩:=q3
      obtain ⟨m',hm,w3⟩:=hN σ3 H3 n3
      exact ⟨m',hm,σ3,H3,I3,w3⟩
    | brk=>exact q3
    | ret v=>exact q3
  | false =>
    rw [if_neg Bool.false_ne_true]
    exact wpAny_execs_nil ⟨σ1,H2,I2,q2⟩
end
structure It where
  go:Nat→Hp→Prop
  yld:Nat→Hp→V→Hp→Prop
  stop:Nat→Hp→Prop
def FpOk (X:Cx) (pins:List (Addr×Obj)) (H:Hp) (b:Addr):Prop :=
  H b=none∧b≠X.env.locals∧b∉X.fs∧(b∈X.ex∨X.s₀.heap.objs.size≤b)∧(∀ x c,X.env.cells.lookup x=some c→c≠b)∧∀ p∈X.pn++pins,p.1≠b
theorem Inv.fpOk {X:Cx} {pins:List (Addr×Obj)} {σ:St} {H H':Hp} {s:Shared} {b:Addr} (I:Inv X pins σ H s) (hb:s.heap.objs.size≤b) (hn:H' b=none):FpOk X pins H' b:=by
  refine ⟨hn,Nat.ne_of_gt (Nat.lt_of_lt_of_le I.lt hb),I.nofs hb,.inr (Nat.le_trans I.sz hb),fun x c e z=>?_,fun p hp z=>?_⟩
  · obtain ⟨v,q⟩:=I.cell x c e
    exact absurd (Nat.lt_of_lt_of_le q.lt (by rw [z]; exact hb)) (Nat.lt_irrefl _)
  · exact absurd (Nat.lt_of_lt_of_le (Heap.lt_size (I.pin p hp).1) (by rw [z]; exact hb)) (Nat.lt_irrefl _)
structure Turn (P:Program) (w:World) (K:PySem.W.Frag) (tg:Expr) (J:It) (fp:List Addr) (it:Addr) (tn:Nat→Heap→Prop):Prop where
  mem:it∈fp
  obj:∀ i h,tn i h→∀ b∈fp,∃ o,h.get? b=some o∧∀ v,o.data≠.cell v
  keep:∀ i h h',tn i h→(∀ b∈fp,∀ o,h.get? b=some o→h'.get? b=some o)→tn i h'
  item:∀ (X:Cx),X.prog=P→X.w=w→X.K=K→X.calm=true→∀ (i:Nat) (pins:List (Addr×Obj)) (s:Shared) (σ:St) (H:Hp) (E:Value→Shared→Prop),Inv X pins σ H s→(∀ b∈fp,FpOk X pins H b)→tn i s.heap→J.go i H →
    wpAny (model P w) X.A (pyNext (.ref it)) (fun r s1=>∃ u,r=some u ∧
      wpAny (model P w) X.A (letOwnedTupleGo tg (.ref it) u) (fun _ s2=>∃ x H',Inv X pins σ H' s2∧RelV x u∧J.yld i H x H'∧tn (i+1) s2.heap∧∀ b∈fp,H' b=none) E s1) E s
  done:∀ (X:Cx),X.prog=P→X.w=w→X.K=K→X.calm=true→∀ (i:Nat) (pins:List (Addr×Obj)) (s:Shared) (σ:St) (H:Hp) (E:Value→Shared→Prop),Inv X pins σ H s→(∀ b∈fp,FpOk X pins H b)→tn i s.heap→J.stop i H →
    wpAny (model P w) X.A (pyNext (.ref it)) (fun r s1=>r=none∧Inv X pins σ H s1) E s
  self:∀ (A:Around) (i:Nat) (s:Shared) (Q:Value→Shared→Prop) (E:Value→Shared→Prop),tn i s.heap→Q (.ref it) s→wpAny (model P w) A (pyIter (.ref it)) Q E s
abbrev TI:=St→Hp→(It→Hp→Prop)→Prop
def PIE (X:Cx) (pins:List (Addr×Obj)) (σ:St) (tg:Expr) (R:It→Hp→Prop) (itv:Value) (s2:Shared):Prop :=
  ∃ (it:Addr) (fp:List Addr) (tn:Nat→Heap→Prop) (J:It) (H':Hp),itv=.ref it∧Inv X pins σ H' s2∧Turn X.prog X.w X.K tg J fp it tn∧tn 0 s2.heap∧(∀ b∈fp,FpOk X pins H' b)∧R J H'
def PI (X : Cx) (tg iter : Expr) (wi : TI) : Prop :=
  ∀ (pins:List (Addr×Obj)) (s:Shared) (σ:St) (H:Hp) (R:It→Hp→Prop),Inv X pins σ H s→wi σ H R →
    wpAny (model X.prog X.w) X.A (eval iter X.env) (fun v s1=>wpAny (model X.prog X.w) X.A (pyIter v) (PIE X pins σ tg R) X.xe s1) X.xe s
theorem go_of {M : Model} {A : Around} {E : Value → Shared → Prop} {s : Shared} {tg : Expr} {it : Addr} {u : Value} {o : Obj} {n : String} {vs : Array Value} {Q : Unit → Shared → Prop} (ho : s.heap.get? it = some o) (hc : o.cls = .type n) (hd : o.data = .fields vs)
    (hn:["enumerate", "zip", "dict_itemiterator", "dict_reverseitemiterator", "odict_iterator", "itertools.zip_longest", "itertools.pairwise"].contains n=false) (hQ:Q () s):wpAny M A (letOwnedTupleGo tg (.ref it) u) Q E s:=by
  unfold letOwnedTupleGo
  cases tg <;> first
    | exact wpAny_pure hQ
    | (cases u <;> first
        | exact wpAny_pure hQ
        | (refine wpAny_bind (wpAny_load ho ?_)
           rw [hc,hd]
           show wpAny M A (if (["enumerate", "zip", "dict_itemiterator", "dict_reverseitemiterator", "odict_iterator", "itertools.zip_longest", "itertools.pairwise"].contains n && vs[0]?==some (rawInt _))=true then _ else _) Q E s
           rw [if_neg (by intro h; rw [hn,Bool.false_and] at h; cases h)]
           exact wpAny_pure hQ))
def Itl (K:PySem.W.Frag) (a:Addr):It :=
  ⟨fun i H=>∃ xs x,SqL K H a xs∧xs[i]?=some x,fun i H x H'=>H'=H∧∀ xs,SqL K H a xs→xs[i]?=some x,fun i H=>∃ xs,SqL K H a xs∧xs.length≤i⟩
def Itt (K:PySem.W.Frag) (a:Addr):It :=
  ⟨fun i H=>∃ xs x,SqT K H a xs∧xs[i]?=some x,fun i H x H'=>H'=H∧∀ xs,SqT K H a xs→xs[i]?=some x,fun i H=>∃ xs,SqT K H a xs∧xs.length≤i⟩
def Itr (lo:Int) (n:Nat):It:=⟨fun i _=>i<n,fun i H x H'=>H'=H∧x=.int (lo+i),fun i _=>n≤i⟩
theorem turn_list {P:Program} {w:World} {K:PySem.W.Frag} {tg:Expr} (a it:Addr):Turn P w K tg (Itl K a) [it] it (fun i h=>h.IsListIter it a i) where
  mem:=by simp
  obj:=fun i h st b hb=>by
    have e:b=it:=by simpa using hb
    subst e
    obtain ⟨o,e,c,d⟩:=st
    exact ⟨o,e,fun v z=>by rw [d] at z; cases z⟩
  keep:=fun i h h' st k=>st.at fun o e=>k it (by simp) o e
  item:=by
    intro X hP hw hK hc i pins s σ H E I hf st hg
    subst hP hw hK
    obtain ⟨xs,x,hq,hx⟩:=hg
    obtain ⟨its,rv,p,hz⟩:=I.list hq
    obtain ⟨u,hu,ru⟩:=rv.get hx
    obtain ⟨f0,f1,f2,f3,f4,f5⟩:=hf it (by simp)
    refine wpAny_pyNext_list_item st p.isList (x:=u) (by simpa using hu) fun h' st' sb=>?_
    have I1:Inv X pins σ H { s with heap:=h' }:=I.turned (t':=s.toks) (fun b o hb e=>(sb.2 b hb).trans e) f0 f1 f3 f4 f5
    obtain ⟨o,e,c,d⟩:=id st'
    exact ⟨u,rfl,go_of (s:={ s with heap:=h' }) e c d (by decide) ⟨x,H,I1,ru,⟨rfl,fun ys hy=>by rw [I.list_inj hy hq]; exact hx⟩,st',fun b hb=>(hf b hb).1⟩⟩
  done:=by
    intro X hP hw hK hc i pins s σ H E I hf st hg
    subst hP hw hK
    obtain ⟨xs,hq,hx⟩:=hg
    obtain ⟨its,rv,p,hz⟩:=I.list hq
    obtain ⟨f0,f1,f2,f3,f4,f5⟩:=hf it (by simp)
    have hl:=rv.length
    exact next_list_end (I.hb hc) (I.hna hc f3 f5) st p.isList (by simp; omega) fun h' eb=>⟨rfl,I.turned (t':=s.toks) (fun b o hb e=>eb b o hb e) f0 f1 f3 f4 f5⟩
  self:=fun _ _ _ _ _ st h=>wpAny_pyIter_listiter st h
theorem turn_tuple {P:Program} {w:World} {K:PySem.W.Frag} {tg:Expr} (a it:Addr):Turn P w K tg (Itt K a) [it] it (fun i h=>h.IsTupleIter it a i) where
  mem:=by simp
  obj:=fun i h st b hb=>by
    have e:b=it:=by simpa using hb
    subst e
    obtain ⟨o,e,c,d⟩:=st
    exact ⟨o,e,fun v z=>by rw [d] at z; cases z⟩
  keep:=fun i h h' st k=>st.at fun o e=>k it (by simp) o e
  item:=by
    intro X hP hw hK hc i pins s σ H E I hf st hg
    subst hP hw hK
    obtain ⟨xs,x,hq,hx⟩:=hg
    obtain ⟨its,rv,p,hz⟩:=I.tuple hq
    obtain ⟨u,hu,ru⟩:=rv.get hx
    obtain ⟨f0,f1,f2,f3,f4,f5⟩:=hf it (by simp)
    refine wpAny_pyNext_tuple_item st (show s.heap.IsTuple a its.toArray from p) (x:=u) (by simpa using hu) fun h' st' sb=>?_
    have I1:Inv X pins σ H { s with heap:=h' }:=I.turned (t':=s.toks) (fun b o hb e=>(sb.2 b hb).trans e) f0 f1 f3 f4 f5
    obtain ⟨o,e,c,d⟩:=id st'
    exact ⟨u,rfl,go_of (s:={ s with heap:=h' }) e c d (by decide) ⟨x,H,I1,ru,⟨rfl,fun ys hy=>by rw [I.tuple_inj hy hq]; exact hx⟩,st',fun b hb=>(hf b hb).1⟩⟩
  done:=by
    intro X hP hw hK hc i pins s σ H E I hf st hg
    subst hP hw hK
    obtain ⟨xs,hq,hx⟩:=hg
    obtain ⟨its,rv,p,hz⟩:=I.tuple hq
    obtain ⟨f0,f1,f2,f3,f4,f5⟩:=hf it (by simp)
    have hl:=rv.length
    exact next_tuple_end (I.hb hc) (I.hna hc f3 f5) st (show s.heap.IsTuple a its.toArray from p) (by simp; omega) fun h' eb=>⟨rfl,I.turned (t':=s.toks) (fun b o hb e=>eb b o hb e) f0 f1 f3 f4 f5⟩
  self:=fun _ _ _ _ _ st h=>wpAny_pyIter_tupleiter st h
theorem turn_range {P:Program} {w:World} {K:PySem.W.Frag} {tg:Expr} (it:Addr) (lo:Int) (n:Nat):Turn P w K tg (Itr lo n) [it] it (fun i h=>IsRangeIter h it (lo+(i:Nat)*1) ((n:Int)-(i:Nat)) 1) where
  mem:=by simp
  obj := fun i h st b hb => by
    have e:b=it:=by simpa using hb
    subst e
    exact ⟨_,st,fun v z=>by
      have z':Data.fields _=Data.cell v:=z
      cases z'⟩
  keep:=fun i h h' st k=>k it (by simp) _ st
  item:=by
    intro X hP hw hK hc i pins s σ H E I hf st hg
    subst hP hw hK
    obtain ⟨f0,f1,f2,f3,f4,f5⟩:=hf it (by simp)
    refine range_item hg st fun v h' tk hv st' kk=>?_
    obtain ⟨t,rfl⟩:=hv
    have I1:Inv X pins σ H { s with heap:=h',toks:=tk }:=I.turned (fun b o hb e=>kk b o (by simpa using hb) e) f0 f1 f3 f4 f5
    refine ⟨_,rfl,go_of (s:={ s with heap:=h',toks:=tk }) (n := "range_iterator") st' rfl rfl (by decide) ⟨.int (lo+i),H,I1,⟨t,?_⟩,⟨rfl,rfl⟩,st',fun b hb=>(hf b hb).1⟩⟩
    rw [Int.mul_one]
  done:=by
    intro X hP hw hK hc i pins s σ H E I hf st hg
    subst hP hw hK
    obtain ⟨f0,f1,f2,f3,f4,f5⟩:=hf it (by simp)
    exact next_range_end (I.hb hc) st (by have:n≤i:=hg; omega) fun h' eb=>⟨rfl,I.turned (t':=s.toks) (fun b o hb e=>eb b o hb e) f0 f1 f3 f4 f5⟩
  self:=fun _ _ _ _ _ st h=>wpAny_pyIter_rangeiter st h
end L2
namespace L2
open PySem PySem.Spec PyProof.Rows
section
variable {X:Cx} {tg:Expr}
def iList (K:PySem.W.Frag) (tl:TE):TI:=fun σ H R=>tl σ H fun x H1=>∃ a,x=.ref a∧(∃ xs,SqL K H1 a xs)∧R (Itl K a) H1
def iTup (K:PySem.W.Frag) (tl:TE):TI:=fun σ H R=>tl σ H fun x H1=>∃ a,x=.ref a∧(∃ xs,SqT K H1 a xs)∧R (Itt K a) H1
theorem pi_list {l:Expr} {tl:TE} (hl:PE X l tl):PI X tg l (iList X.K tl):=by
  intro pins s σ H R I h
  refine thn (hl pins s σ H _ I h) fun v s1 ⟨x,H1,I1,r1,q1⟩=>?_
  obtain ⟨a,e,⟨xs,hq⟩,q⟩:=q1
  subst e
  cases r1
  obtain ⟨its,rv,p,hz⟩:=I1.list hq
  refine wpAny_pyIter_list p.isList ?_
  refine ⟨s1.heap.objs.size,[s1.heap.objs.size],_,_,H1,rfl,I1.kept (t':=s1.toks) fun b o e=>Heap.get?_push_of_some _ e,turn_list a _,⟨_,Heap.get?_push_size _ rfl,rfl,rfl⟩,fun b hb=>?_,q⟩
  have e:b=s1.heap.objs.size:=by simpa using hb
  subst e
  exact I1.fpOk (Nat.le_refl _) (I1.hok.fresh (Nat.le_refl _))
theorem pi_tup {l:Expr} {tl:TE} (hl:PE X l tl):PI X tg l (iTup X.K tl):=by
  intro pins s σ H R I h
  refine thn (hl pins s σ H _ I h) fun v s1 ⟨x,H1,I1,r1,q1⟩=>?_
  obtain ⟨a,e,⟨xs,hq⟩,q⟩:=q1
  subst e
  cases r1
  obtain ⟨its,rv,p,hz⟩:=I1.tuple hq
  refine wpAny_pyIter_tuple (show s1.heap.IsTuple a its.toArray from p) ?_
  refine ⟨s1.heap.objs.size,[s1.heap.objs.size],_,_,H1,rfl,I1.kept (t':=s1.toks) fun b o e=>Heap.get?_push_of_some _ e,turn_tuple a _,⟨_,Heap.get?_push_size _ rfl,rfl,rfl⟩,fun b hb=>?_,q⟩
  have e:b=s1.heap.objs.size:=by simpa using hb
  subst e
  exact I1.fpOk (Nat.le_refl _) (I1.hok.fresh (Nat.le_refl _))
theorem range_it {pins:List (Addr×Obj)} {σ:St} {H:Hp} {s:Shared} {R:It→Hp→Prop} {E:Value→Shared→Prop} {lo hi:Int} {t u v:Tok} {tk:Nat} (I:Inv X pins σ H s) (h1:-(2 ^ 62)≤lo) (h2:lo<2 ^ 62) (h3:-(2 ^ 62)≤hi) (h4:hi<2 ^ 62)
    (q:R (Itr lo (hi-lo).toNat) H):wpAny (model X.prog X.w) X.A (pyIter (.ref s.heap.objs.size)) (PIE X pins σ tg R) E { s with heap:=s.heap.push { cls:=.type "range",data:=.fields #[.int lo t,.int hi u,.int 1 v] },toks:=tk }:=by
  refine wpAny_pyIter_range (IsRange.new ..) (small_one h1 h2 h3 h4) ?_
  have I1:Inv X pins σ H { s with heap:=s.heap.push { cls:=.type "range",data:=.fields #[.int lo t,.int hi u,.int 1 v] },toks:=tk }:=I.kept fun b o e=>Heap.get?_push_of_some _ e
  refine ⟨(s.heap.push { cls:=.type "range",data:=.fields #[.int lo t,.int hi u,.int 1 v] }).objs.size,[(s.heap.push { cls:=.type "range",data:=.fields #[.int lo t,.int hi u,.int 1 v] }).objs.size],_,_,H,rfl,
    I1.kept (t':=tk) fun b o e=>Heap.get?_push_of_some _ e,turn_range _ lo (hi-lo).toNat,?_,fun b hb=>?_,q⟩
  · have e1:lo+((0:Nat):Int)*1=lo:=by simp
    have e2:(((hi-lo).toNat:Nat):Int)-((0:Nat):Int)=Builtin.Range.rangeSize lo hi 1:=by rw [rangeSize_one]; split <;> omega
    show IsRangeIter _ _ (lo+((0:Nat):Int)*1) ((((hi-lo).toNat:Nat):Int)-((0:Nat):Int)) 1
    rw [e1,e2]
    exact Heap.get?_push_size _ rfl
  · have e:b=(s.heap.push { cls:=.type "range",data:=.fields #[.int lo t,.int hi u,.int 1 v] }).objs.size:=by simpa using hb
    subst e
    exact I1.fpOk (Nat.le_refl _) (I1.hok.fresh (Nat.le_refl _))
def iRng1 (ta:TA):TI:=fun σ H R=>ta σ H fun vs H1=>∃ j:Int,vs=[.int j]∧-(2 ^ 62)≤j∧j<2 ^ 62∧R (Itr 0 j.toNat) H1
theorem pi_range1 {a:Expr} {ta:TA} {p pos:Pos} (hg:Gl X "range") (hm:X.mg "range" = none) (ha:PA X [a] ta) (hs:starEach [a] X.env=[(false,eval a X.env)]:=by rfl):PI X tg (.Call (.Name "range" p) [a] [] pos) (iRng1 ta):=by
  intro pins s σ H R I h
  refine Call_ (ld_blt I hg hm boot_range (PyProof.Rows.callWith_type1 (thn (ha pos pins s σ H _ I h) fun us s1 ⟨vs,H1,I1,r1,q1⟩=>?_) hs rfl))
  obtain ⟨j,e,q1,q2,q⟩:=q1
  subst e
  cases r1 with
  | cons r rr =>
    cases rr
    obtain ⟨t,rfl⟩:=r
    exact call_range_1 (range_it I1 (by omega) (by omega) q1 q2 (by simpa using q))
def tFor (wi:TI) (g:TG) (tb:TS):TS:=fun D σ H=>wi σ H fun J H1=>∃ W:Nat→Nat→St→Hp→Prop,(∃ m,W 0 m σ H1)∧∀ i m σ H,W i m σ H →
  (J.stop i H∧D.nx σ H)∨(J.go i H∧∃ N:St→Hp→Prop,(∀ σ' H',N σ' H'→∃ m',m'<m∧W (i+1) m' σ' H')∧∀ x H',J.yld i H x H'→g x σ H' fun σ2 H2=>tb { D with nx:=N,ct:=N,bk:=D.nx } σ2 H2)
def pinsAt (fp:List Addr) (h:Heap):List (Addr×Obj):=fp.filterMap fun b=>(h.get? b).map fun o=>(b,o)
theorem mem_pinsAt {fp:List Addr} {h:Heap} {b:Addr} {o:Obj} (hb:b∈fp) (e:h.get? b=some o):(b,o)∈pinsAt fp h:=List.mem_filterMap.mpr ⟨b,hb,by rw [e]; rfl⟩
theorem of_pinsAt {fp:List Addr} {h:Heap} {p:Addr×Obj} (hp:p∈pinsAt fp h):p.1∈fp∧h.get? p.1=some p.2:=by
  obtain ⟨b,hb,e⟩:=List.mem_filterMap.mp hp
  cases q:h.get? b with
  | none=>rw [q] at e; cases e
  | some o =>
    rw [q] at e
    have e':(b,o)=p:=Option.some.inj e
    subst e'
    exact ⟨hb,q⟩
theorem Inv.pinned {pins:List (Addr×Obj)} {σ:St} {H:Hp} {s:Shared} {fp:List Addr} (I:Inv X pins σ H s) (hf:∀ b∈fp,FpOk X pins H b) (ho:∀ b∈fp,∃ o,s.heap.get? b=some o∧∀ v,o.data≠.cell v):Inv X (pins++pinsAt fp s.heap) σ H s :=
  I.pins_of fun p hp=>(List.mem_append.mp hp).elim (fun z=>I.pin p (List.mem_append_right _ z)) fun z=>by
    obtain ⟨hb,e⟩:=of_pinsAt z
    obtain ⟨f0,f1,f2,_⟩:=hf p.1 hb
    obtain ⟨o,e',d⟩:=ho p.1 hb
    rw [e] at e'; cases e'
    exact ⟨e,f0,f1,f2,d⟩
theorem Inv.unpinned {pins pl:List (Addr×Obj)} {σ:St} {H:Hp} {s:Shared} (I:Inv X (pins++pl) σ H s):Inv X pins σ H s:=I.pins_of fun p hp=>I.pin p (List.mem_append_right _ (List.mem_append_left _ hp))
theorem ps_for {iter:Expr} {body:List Stmt} {wi:TI} {g:TG} {tb:TS} {pos:Pos} (hp:PassesOwn (model X.prog X.w) X.A X.env X.xe) (hc:X.calm=true) (hi:PI X tg iter wi) (hg:PG X tg g) (hb:PSs X body tb)
    (hs:∀ x,foldedSetIterable iter X.env x=pure x:=by intro _; rfl):PS X (.For tg iter body [] pos) (tFor wi g tb):=by
  intro pins s σ H D I h
  refine wpAny_For (thn (hi pins s σ H _ I h) fun v s1 h1=>thn h1 fun itv s2 h2=>?_) hs
  obtain ⟨it,fp,tn,J,H2,e,I2,T,st2,f2,W,⟨m0,w0⟩,turn⟩:=h2
  subst e
  -- what stays true of the iterator's objects through the loop
  have stat:∀ {H':Hp},(∀ b∈fp,H' b=none)→∀ b∈fp,FpOk X pins H' b:=fun hn b hb=>⟨hn b hb,(f2 b hb).2⟩
  refine codeAny_forLoop_any (fun n s'=>∃ i σ' H',Inv X pins σ' H' s'∧tn i s'.heap∧(∀ b∈fp,H' b=none)∧W i n σ' H') ?_ m0 ⟨0,σ,H2,I2,st2,fun b hb=>(f2 b hb).1,w0⟩
  rintro n s3 ⟨i,σ3,H3,I3,st3,fr3,w3⟩
  rcases turn i n σ3 H3 w3 with ⟨stop,qn⟩ | ⟨go,N,hN,step⟩
  · refine wpAny_passesOwn hp (thn (T.done X rfl rfl rfl hc i pins s3 σ3 H3 X.xe I3 (stat fr3) st3 stop) fun r s4 ⟨hr,I4⟩=>?_)
    subst hr
    exact wpAny_execs_nil ⟨σ3,H3,I4,qn⟩
  · refine wpAny_passesOwn hp (thn (T.item X rfl rfl rfl hc i pins s3 σ3 H3 X.xe I3 (stat fr3) st3 go) fun r s4 ⟨u,hr,h4⟩=>?_)
    subst hr
    refine wpAny_passesOwn hp (thn h4 fun _ s5 ⟨x,H5,I5,r5,y5,st5,fr5⟩=>?_)
    have I5':=I5.pinned (stat fr5) (T.obj _ _ st5)
    refine wpAny_passesOwn hp (thn (hg _ s5 σ3 H5 x u _ I5' r5 (step x H5 y5)) fun _ s6 ⟨σ6,H6,I6,q6⟩=>?_)
    refine wpAny_passesOwn hp (thn (hb _ s6 σ6 H6 _ I6 q6) fun f s7 q7=>?_)
    have again:∀ {σ7:St} {H7:Hp},Inv X (pins++pinsAt fp s5.heap) σ7 H7 s7→N σ7 H7→∃ m,m<n∧∃ i σ' H',Inv X pins σ' H' s7∧tn i s7.heap∧(∀ b∈fp,H' b=none)∧W i m σ' H':=fun {σ7 H7} I7 n7=>by
      obtain ⟨m',hm,w7⟩:=hN σ7 H7 n7
      refine ⟨m',hm,i+1,σ7,H7,I7.unpinned,T.keep _ _ _ st5 fun b hb o e=>(I7.pin (b,o) (List.mem_append_right _ (List.mem_append_right _ (mem_pinsAt hb e)))).1,fun b hb=>?_,w7⟩
      obtain ⟨o,e,d⟩:=T.obj _ _ st5 b hb
      exact (I7.pin (b,o) (List.mem_append_right _ (List.mem_append_right _ (mem_pinsAt hb e)))).2.1
    cases f with
    | next=>obtain ⟨σ7,H7,I7,n7⟩:=q7; exact again I7 n7
    | cont=>obtain ⟨σ7,H7,I7,n7⟩:=q7; exact again I7 n7
    | brk=>obtain ⟨σ7,H7,I7,q7⟩:=q7; exact ⟨σ7,H7,I7.unpinned,q7⟩
    | ret v=>obtain ⟨x7,σ7,H7,I7,r7,q7⟩:=q7; exact ⟨x7,σ7,H7,I7.unpinned,r7,q7⟩
end
theorem for_list {K:PySem.W.Frag} {a:Addr} {xs:List V} {g:TG} {tb:TS} {D:Ends} {σ:St} {H:Hp} (Pv:Nat→St→Hp→Prop) (h0:Pv 0 σ H) (hl:∀ i σ H,i≤xs.length→Pv i σ H→SqL K H a xs)
    (hs:∀ i x σ H,xs[i]?=some x→Pv i σ H→g x σ H fun σ2 H2=>tb { D with nx:=Pv (i+1),ct:=Pv (i+1),bk:=D.nx } σ2 H2) (hd:∀ σ H,Pv xs.length σ H→D.nx σ H) :
    ∃ W:Nat→Nat→St→Hp→Prop,(∃ m,W 0 m σ H)∧∀ i m σ H,W i m σ H →
      ((Itl K a).stop i H∧D.nx σ H)∨((Itl K a).go i H∧∃ N:St→Hp→Prop,(∀ σ' H',N σ' H'→∃ m',m'<m∧W (i+1) m' σ' H')∧∀ x H',(Itl K a).yld i H x H'→g x σ H' fun σ2 H2=>tb { D with nx:=N,ct:=N,bk:=D.nx } σ2 H2):=by
  refine ⟨fun i m σ H=>m=xs.length-i∧i≤xs.length∧Pv i σ H,⟨xs.length,by simp,Nat.zero_le _,h0⟩,?_⟩
  rintro i m σ H ⟨rfl,hi,p⟩
  have q:=hl i σ H hi p
  by_cases hlt:i<xs.length
  · refine .inr ⟨⟨xs,xs[i],q,by simp [hlt]⟩,Pv (i+1),fun σ' H' p'=>⟨xs.length-(i+1),by omega,rfl,hlt,p'⟩,fun x H' y=>?_⟩
    obtain ⟨e,y⟩:=y
    subst e
    exact hs i x σ _ (y xs q) p
  · have e:i=xs.length:=by omega
    subst e
    exact .inl ⟨⟨xs,q,Nat.le_refl _⟩,hd σ H p⟩
theorem for_range {lo:Int} {n:Nat} {g:TG} {tb:TS} {D:Ends} {σ:St} {H:Hp} (Pv:Nat→St→Hp→Prop) (h0:Pv 0 σ H)
    (hs:∀ i σ H,i<n→Pv i σ H→g (.int (lo+i)) σ H fun σ2 H2=>tb { D with nx:=Pv (i+1),ct:=Pv (i+1),bk:=D.nx } σ2 H2) (hd:∀ σ H,Pv n σ H→D.nx σ H) :
    ∃ W:Nat→Nat→St→Hp→Prop,(∃ m,W 0 m σ H)∧∀ i m σ H,W i m σ H →
      ((Itr lo n).stop i H∧D.nx σ H)∨((Itr lo n).go i H∧∃ N:St→Hp→Prop,(∀ σ' H',N σ' H'→∃ m',m'<m∧W (i+1) m' σ' H')∧∀ x H',(Itr lo n).yld i H x H'→g x σ H' fun σ2 H2=>tb { D with nx:=N,ct:=N,bk:=D.nx } σ2 H2):=by
  refine ⟨fun i m σ H=>m=n-i∧i≤n∧Pv i σ H,⟨n,by simp,Nat.zero_le _,h0⟩,?_⟩
  rintro i m σ H ⟨rfl,hi,p⟩
  by_cases hlt:i<n
  · refine .inr ⟨hlt,Pv (i+1),fun σ' H' p'=>⟨n-(i+1),by omega,rfl,hlt,p'⟩,fun x H' y=>?_⟩
    obtain ⟨e,y⟩:=y
    subst e y
    exact hs i σ _ hlt p
  · have e:i=n:=by omega
    subst e
    exact .inl ⟨Nat.le_refl _,hd σ H p⟩
end L2
namespace L2
open PySem PySem.Spec PyProof.Rows
abbrev R2:=V→V→Hp→VK→Prop
def OpR (X : Cx) (f : Value → Value → Sem Value) (r : R2) : Prop :=
  ∀ (pins:List (Addr×Obj)) (s:Shared) (σ:St) (H:Hp) (x y:V) (v u:Value) (Q:VK),Inv X pins σ H s→RelV x v→RelV y u→r x y H Q →
    wpAny (model X.prog X.w) X.A (f v u) (EP X pins σ Q) X.xe s
def UnR (X : Cx) (f : Value → Sem Value) (r : V → Hp → VK → Prop) : Prop :=
  ∀ (pins:List (Addr×Obj)) (s:Shared) (σ:St) (H:Hp) (x:V) (v:Value) (Q:VK),Inv X pins σ H s→RelV x v→r x H Q →
    wpAny (model X.prog X.w) X.A (f v) (EP X pins σ Q) X.xe s
def CallR (X : Cx) (f : Value) (r : List V → Hp → VK → Prop) : Prop :=
  ∀ (pins:List (Addr×Obj)) (s:Shared) (σ:St) (H:Hp) (xs:List V) (us:List Value) (Q:VK),Inv X pins σ H s→Vals xs us→r xs H Q →
    wpAny (model X.prog X.w) X.A (call f us) (EP X pins σ Q) X.xe s
def tOp (r:R2) (ta tb:TE):TE:=fun σ H Q=>ta σ H fun x H1=>tb σ H1 fun y H2=>r x y H2 Q
def tUn (r:V→Hp→VK→Prop) (ta:TE):TE:=fun σ H Q=>ta σ H fun x H1=>r x H1 Q
def rI (C:Int→Int→Prop) (g:Int→Int→V):R2:=fun x y H Q=>∃ i j,x=.int i∧y=.int j∧C i j∧Q (g i j) H
def rI0 (g:Int→Int→V):R2:=fun x y H Q=>∃ i j,x=.int i∧y=.int j∧Q (g i j) H
def rU (g:Int→V):V→Hp→VK→Prop:=fun x H Q=>∃ i,x=.int i∧Q (g i) H
section
variable {X:Cx} {a b c:Expr} {ta tb tc:TE} {pos:Pos}
theorem binT (ha:PE X a ta) (hb:PE X b tb) {pins:List (Addr×Obj)} {s:Shared} {σ:St} {H:Hp} {R:V→V→Hp→Prop} (I:Inv X pins σ H s)
    (h:ta σ H fun x H1=>tb σ H1 fun y H2=>R x y H2) {Q:Value→Shared→Prop} {f:Value→Value→Sem Value}
    (hf:∀ v u s2 x y H2,Inv X pins σ H2 s2→RelV x v→RelV y u→R x y H2→wpAny (model X.prog X.w) X.A (f v u) Q X.xe s2) :
    wpAny (model X.prog X.w) X.A (eval a X.env) (fun v s₁=>wpAny (model X.prog X.w) X.A (eval b X.env) (fun u s₂=>wpAny (model X.prog X.w) X.A (f v u) Q X.xe s₂) X.xe s₁) X.xe s:=by
  refine thn (ha pins s σ H _ I h) fun v s1 ⟨x,H1,I1,r1,q1⟩=>?_
  refine thn (hb pins s1 σ H1 _ I1 q1) fun u s2 ⟨y,H2,I2,r2,q2⟩=>?_
  exact hf v u s2 x y H2 I2 r1 r2 q2
theorem pe_op {op:Operator} {r:R2} (ho:OpR X (binaryOp op) r) (ha:PE X a ta) (hb:PE X b tb):PE X (.BinOp a op b pos) (tOp r ta tb):=by
  intro pins s σ H Q I h
  exact wpAny_BinOp (binT ha hb I h fun v u s2 x y H2 I2 rx ry q=>ho pins s2 σ H2 x y v u Q I2 rx ry q)
theorem pe_un {op:UnaryOp} {r:V→Hp→VK→Prop} (ho:UnR X (unaryOp op) r) (ha:PE X a ta):PE X (.UnaryOp op a pos) (tUn r ta):=by
  intro pins s σ H Q I h
  exact UnaryOp_ (thn (ha pins s σ H _ I h) fun v s1 ⟨x,H1,I1,r1,q1⟩=>ho pins s1 σ H1 x v Q I1 r1 q1)
theorem opI {f:Value→Value→Sem Value} {C:Int→Int→Prop} {g:Int→Int→Int}
    (rule:∀ (i j:Int) (t u:Tok) (s:Shared) (Q:Value→Shared→Prop) (E:Value→Shared→Prop),C i j→Q (.int (g i j) s.toks) { s with toks:=s.toks+1 }→wpAny (model X.prog X.w) X.A (f (.int i t) (.int j u)) Q E s) :
    OpR X f (rI C fun i j=>.int (g i j)):=by
  intro pins s σ H x y v u Q I rx ry h
  obtain ⟨i,j,rfl,rfl,hc,q⟩:=h
  obtain ⟨t,rfl⟩:=rx
  obtain ⟨t',rfl⟩:=ry
  exact rule i j t t' s _ _ hc ⟨.int (g i j),H,I.tok _,⟨_,rfl⟩,q⟩
theorem opI0 {f:Value→Value→Sem Value} {g:Int→Int→Int}
    (rule:∀ (i j:Int) (t u:Tok) (s:Shared) (Q:Value→Shared→Prop) (E:Value→Shared→Prop),Q (.int (g i j) s.toks) { s with toks:=s.toks+1 }→wpAny (model X.prog X.w) X.A (f (.int i t) (.int j u)) Q E s) :
    OpR X f (rI0 fun i j=>.int (g i j)):=by
  intro pins s σ H x y v u Q I rx ry h
  obtain ⟨i,j,rfl,rfl,q⟩:=h
  obtain ⟨t,rfl⟩:=rx
  obtain ⟨t',rfl⟩:=ry
  exact rule i j t t' s _ _ ⟨.int (g i j),H,I.tok _,⟨_,rfl⟩,q⟩
theorem opB0 {f:Value→Value→Sem Value} {g:Int→Int→Bool}
    (rule:∀ (i j:Int) (t u:Tok) (s:Shared) (Q:Value→Shared→Prop) (E:Value→Shared→Prop),Q (.bool (g i j)) s→wpAny (model X.prog X.w) X.A (f (.int i t) (.int j u)) Q E s) :
    OpR X f (rI0 fun i j=>.bl (g i j)):=by
  intro pins s σ H x y v u Q I rx ry h
  obtain ⟨i,j,rfl,rfl,q⟩:=h
  obtain ⟨t,rfl⟩:=rx
  obtain ⟨t',rfl⟩:=ry
  exact rule i j t t' s _ _ ⟨.bl (g i j),H,I,rfl,q⟩
def CMul (i j:Int):Prop:=(-(2 ^ 64)<i∧i<2 ^ 64)∨(-(2 ^ 64)<j∧j<2 ^ 64)
theorem CMul.ok {i j:Int} (h:CMul i j):IntMulOk i j:=by
  rcases h with ⟨h1,h2⟩ | ⟨h1,h2⟩
  · exact .of_left (intBits_le_64 h1 h2)
  · exact .of_right (intBits_le_64 h1 h2)
theorem op_add:OpR X (binaryOp .Add) (rI0 fun i j=>.int (i+j)):=opI0 fun _ _ _ _ _ _ _ q=>add_int q
theorem op_sub:OpR X (binaryOp .Sub) (rI0 fun i j=>.int (i-j)):=opI0 fun _ _ _ _ _ _ _ q=>sub_int q
theorem op_mul:OpR X (binaryOp .Mult) (rI CMul fun i j=>.int (i*j)):=opI fun _ _ _ _ _ _ _ hc q=>mul_int q hc.ok
theorem op_mod:OpR X (binaryOp .Mod) (rI (fun _ j=>0<j) fun i j=>.int (i % j)):=opI fun i j _ _ _ _ _ hc q=>by
  have h1:(0:Int)<j:=hc
  exact mod_int' (by omega) (by rw [Int.fmod_eq_emod_of_nonneg i (by omega)]; exact q)
theorem unI {f:Value→Sem Value} {g:Int→Int}
    (rule:∀ (i:Int) (t:Tok) (s:Shared) (Q:Value→Shared→Prop) (E:Value→Shared→Prop),Q (.int (g i) s.toks) { s with toks:=s.toks+1 }→wpAny (model X.prog X.w) X.A (f (.int i t)) Q E s) :
    UnR X f (rU fun i=>.int (g i)):=by
  intro pins s σ H x v Q I rx h
  obtain ⟨i,rfl,q⟩:=h
  obtain ⟨t,rfl⟩:=rx
  exact rule i t s _ _ ⟨.int (g i),H,I.tok _,⟨_,rfl⟩,q⟩
theorem un_neg:UnR X (unaryOp .USub) (rU fun i=>.int (-i)):=unI fun _ _ _ _ _ q=>neg_int q
end
def scal:V→V→Bool
  | .non,.non=>true | .non,.int _=>true | .int _,.non=>true | .non,.bl _=>true | .bl _,.non=>true | .non,.str _=>true | .str _,.non=>true
  | .int _,.int _=>true | .bl _,.bl _=>true | .str _,.str _=>true | .byt _,.byt _=>true
  | .int _,.str _=>true | .str _,.int _=>true | .bl _,.str _=>true | .str _,.bl _=>true
  | _,_=>false
def rEq:R2:=fun x y H Q=>scal x y=true∧Q (.bl (decide (x=y))) H
def rNe:R2:=fun x y H Q=>scal x y=true∧Q (.bl (!decide (x=y))) H
theorem dec_int {i j:Int}:decide (V.int i=V.int j)=(i==j):=by
  rw [Bool.eq_iff_iff]
  simp
theorem dec_bl {i j:Bool}:decide (V.bl i=V.bl j)=(i==j):=by
  rw [Bool.eq_iff_iff]
  simp
theorem dec_str {i j:Str}:decide (V.str i=V.str j)=(i==j):=by
  rw [Bool.eq_iff_iff]
  simp
theorem dec_byt {i j:Array UInt8}:decide (V.byt i=V.byt j)=(i.toList==j.toList):=by
  rw [Bool.eq_iff_iff]
  cases i
  cases j
  simp
section
variable {X:Cx} {a b c:Expr} {ta tb tc:TE} {pos:Pos}
theorem fin_bl {pins:List (Addr×Obj)} {σ:St} {H:Hp} {s:Shared} {Q:VK} {k k':Bool} (I:Inv X pins σ H s) (q:Q (.bl k) H) (e:k=k'):EP X pins σ Q (.bool k') s:=by
  subst e
  exact ⟨.bl k,H,I,rfl,q⟩
theorem op_eq:OpR X (compareOp .Eq) rEq:=by
  intro pins s σ H x y v u Q I rx ry h
  obtain ⟨hs,q⟩:=h
  cases x with
  | non =>
    cases rx
    cases y with
    | non=>cases ry; exact PySem.EqNone.eq_none_none (fin_bl I q (by simp))
    | bl j=>cases ry; exact PySem.EqNone.eq_none_bool (fin_bl I q (by simp))
    | int j=>obtain ⟨t',rfl⟩:=ry; exact PySem.EqNone.eq_none_int (fin_bl I q (by simp))
    | str j=>obtain ⟨t',rfl⟩:=ry; exact PySem.EqNone.eq_none_str (fin_bl I q (by simp))
    | _=>exact absurd (show false=true from hs) Bool.false_ne_true
  | bl i =>
    cases rx
    cases y with
    | non=>cases ry; exact PySem.EqNone.eq_bool_none (fin_bl I q (by simp))
    | bl j=>cases ry; exact eq_bool (fin_bl I q dec_bl)
    | str j=>obtain ⟨t',rfl⟩:=ry; exact PySem.EqMixed.eq_bool_str (fin_bl I q (by simp))
    | _=>exact absurd (show false=true from hs) Bool.false_ne_true
  | int i =>
    obtain ⟨t,rfl⟩:=rx
    cases y with
    | non=>cases ry; exact PySem.EqNone.eq_int_none (fin_bl I q (by simp))
    | int j=>obtain ⟨t',rfl⟩:=ry; exact eq_int (fin_bl I q dec_int)
    | str j=>obtain ⟨t',rfl⟩:=ry; exact PySem.EqMixed.eq_int_str (fin_bl I q (by simp))
    | _=>exact absurd (show false=true from hs) Bool.false_ne_true
  | str i =>
    obtain ⟨t,rfl⟩:=rx
    cases y with
    | non=>cases ry; exact PySem.EqNone.eq_str_none (fin_bl I q (by simp))
    | bl j=>cases ry; exact PySem.EqMixed.eq_str_bool (fin_bl I q (by simp))
    | int j=>obtain ⟨t',rfl⟩:=ry; exact PySem.EqMixed.eq_str_int (fin_bl I q (by simp))
    | str j=>obtain ⟨t',rfl⟩:=ry; exact eq_str (fin_bl I q dec_str)
    | _=>exact absurd (show false=true from hs) Bool.false_ne_true
  | byt i =>
    obtain ⟨t,rfl⟩:=rx
    cases y with
    | byt j=>obtain ⟨t',rfl⟩:=ry; exact PySem.W.eq_bytes (fin_bl I q dec_byt)
    | _=>exact absurd (show false=true from hs) Bool.false_ne_true
  | _=>cases y <;> exact absurd (show false=true from hs) Bool.false_ne_true
theorem op_ne:OpR X (compareOp .NotEq) rNe:=by
  intro pins s σ H x y v u Q I rx ry h
  obtain ⟨hs,q⟩:=h
  cases x with
  | non =>
    cases rx
    cases y with
    | non=>cases ry; exact PySem.EqNone.ne_none_none (fin_bl I q (by simp))
    | bl j=>cases ry; exact PySem.EqNone.ne_none_bool (fin_bl I q (by simp))
    | int j=>obtain ⟨t',rfl⟩:=ry; exact PySem.EqNone.ne_none_int (fin_bl I q (by simp))
    | str j=>obtain ⟨t',rfl⟩:=ry; exact PySem.EqNone.ne_none_str (fin_bl I q (by simp))
    | _=>exact absurd (show false=true from hs) Bool.false_ne_true
  | bl i =>
    cases rx
    cases y with
    | non=>cases ry; exact PySem.EqNone.ne_bool_none (fin_bl I q (by simp))
    | bl j=>cases ry; exact ne_bool (fin_bl I q (congrArg not dec_bl))
    | str j=>obtain ⟨t',rfl⟩:=ry; exact PySem.EqMixed.ne_bool_str (fin_bl I q (by simp))
    | _=>exact absurd (show false=true from hs) Bool.false_ne_true
  | int i =>
    obtain ⟨t,rfl⟩:=rx
    cases y with
    | non=>cases ry; exact PySem.EqNone.ne_int_none (fin_bl I q (by simp))
    | int j=>obtain ⟨t',rfl⟩:=ry; exact ne_int (fin_bl I q (congrArg not dec_int))
    | str j=>obtain ⟨t',rfl⟩:=ry; exact PySem.EqMixed.ne_int_str (fin_bl I q (by simp))
    | _=>exact absurd (show false=true from hs) Bool.false_ne_true
  | str i =>
    obtain ⟨t,rfl⟩:=rx
    cases y with
    | non=>cases ry; exact PySem.EqNone.ne_str_none (fin_bl I q (by simp))
    | bl j=>cases ry; exact PySem.EqMixed.ne_str_bool (fin_bl I q (by simp))
    | int j=>obtain ⟨t',rfl⟩:=ry; exact PySem.EqMixed.ne_str_int (fin_bl I q (by simp))
    | str j=>obtain ⟨t',rfl⟩:=ry; exact ne_str (fin_bl I q (congrArg not dec_str))
    | _=>exact absurd (show false=true from hs) Bool.false_ne_true
  | byt i =>
    obtain ⟨t,rfl⟩:=rx
    cases y with
    | byt j=>obtain ⟨t',rfl⟩:=ry; exact PySem.W.ne_bytes (fin_bl I q (congrArg not dec_byt))
    | _=>exact absurd (show false=true from hs) Bool.false_ne_true
  | _=>cases y <;> exact absurd (show false=true from hs) Bool.false_ne_true
theorem op_lt:OpR X (compareOp .Lt) (rI0 fun i j=>.bl (decide (i<j))):=opB0 fun _ _ _ _ _ _ _ q=>lt_int q
theorem op_le:OpR X (compareOp .LtE) (rI0 fun i j=>.bl (decide (i≤j))):=opB0 fun _ _ _ _ _ _ _ q=>le_int q
theorem op_gt:OpR X (compareOp .Gt) (rI0 fun i j=>.bl (decide (j<i))):=opB0 fun _ _ _ _ _ _ _ q=>gt_int q
theorem op_ge:OpR X (compareOp .GtE) (rI0 fun i j=>.bl (decide (j≤i))):=opB0 fun _ _ _ _ _ _ _ q=>ge_int q
theorem op_isN:OpR X (compareOp .Is) (fun x y H Q=>y=.non∧Q (.bl (decide (x=.non))) H):=by
  intro pins s σ H x y v u Q I rx ry h
  obtain ⟨rfl,q⟩:=h
  cases ry
  refine is_none_gen (fin_bl I q ?_)
  cases x <;> first
    | (cases rx; rfl)
    | (obtain ⟨t,rfl⟩:=rx; rfl)
theorem op_notN:OpR X (compareOp .IsNot) (fun x y H Q=>y=.non∧Q (.bl (!decide (x=.non))) H):=by
  intro pins s σ H x y v u Q I rx ry h
  obtain ⟨rfl,q⟩:=h
  cases ry
  refine isnot_none_gen (fin_bl I q ?_)
  cases x <;> first
    | (cases rx; rfl)
    | (obtain ⟨t,rfl⟩:=rx; rfl)
theorem nomark (b:Expr) {op:CmpOp} (h:op≠.In:=by decide) (h2:op≠.NotIn:=by decide):behindInMarks op b=false:=by
  have e1:(op==CmpOp.In)=false:=by cases op <;> first | rfl | exact absurd rfl h
  have e2:(op==CmpOp.NotIn)=false:=by cases op <;> first | rfl | exact absurd rfl h2
  cases b <;> simp [behindInMarks,e1,e2]
theorem pe_cmpR {op:CmpOp} {r:R2} (ho:OpR X (compareOp op) r) (ha:PE X a ta) (hb:PE X b tb) (hm:behindInMarks op b=false):PE X (.Compare a [op] [b] pos) (tOp r ta tb):=by
  intro pins s σ H Q I h
  exact wpAny_Compare1 (binT ha hb I h fun v u s2 x y H2 I2 rx ry q=>ho pins s2 σ H2 x y v u Q I2 rx ry q) hm
def tTest (t:TE):TT:=fun σ H Q=>t σ H fun x H'=>∃ k,x=.bl k∧Q k H'
theorem pt_cmpR {op:CmpOp} {r:R2} (ho:OpR X (compareOp op) r) (ha:PE X a ta) (hb:PE X b tb) (hm:behindInMarks op b=false):PT X (.Compare a [op] [b] pos) (tTest (tOp r ta tb)):=by
  intro pins s σ H Q I h
  refine wpAny_isTrue_Compare1 (thn (ha pins s σ H _ I h) fun v s1 ⟨x,H1,I1,r1,q1⟩=>thn (hb pins s1 σ H1 _ I1 q1) fun u s2 ⟨y,H2,I2,r2,q2⟩ =>
    thn (ho pins s2 σ H2 x y v u _ I2 r1 r2 q2) fun c s3 ⟨z,H3,I3,r3,k,e,q3⟩=>?_) hm
  subst e
  cases r3
  exact wpAny_truthy_bool ⟨H3,I3,q3⟩
def tChain (r r':R2) (ta tb tc:TE):TE:=fun σ H Q=>ta σ H fun x H1=>tb σ H1 fun y H2=>r x y H2 fun z H3=>∃ k,z=.bl k ∧
  (if k=true then tc σ H3 fun w' H4=>r' y w' H4 Q else Q (.bl false) H3)
theorem pt_chain {op op':CmpOp} {r r':R2} (ho:OpR X (compareOp op) r) (ho':OpR X (compareOp op') r') (ha:PE X a ta) (hb:PE X b tb) (hc:PE X c tc)
    (hm:lastMarks [op,op'] [b,c]=false:=by with_unfolding_all rfl):PT X (.Compare a [op,op'] [b,c] pos) (tTest (tChain r r' ta tb tc)):=by
  intro pins s σ H Q I h
  refine isTrue_chain (thn (ha pins s σ H _ I h) fun v s1 ⟨x,H1,I1,r1,q1⟩=>test_link (thn (hb pins s1 σ H1 _ I1 q1) fun u s2 ⟨y,H2,I2,r2,q2⟩ =>
    thn (ho pins s2 σ H2 x y v u _ I2 r1 r2 q2) fun d s3 ⟨z,H3,I3,r3,k,e,q3⟩=>?_)) hm
  subst e
  cases r3
  refine wpAny_truthy_bool ?_
  cases k with
  | false =>
    obtain ⟨k',e',q'⟩:=q3
    cases e'
    exact ite_ff ⟨H3,I3,q'⟩
  | true =>
    refine ite_tt (test_last (thn (hc pins s3 σ H3 _ I3 q3) fun w' s4 ⟨z',H4,I4,r4,q4⟩=>thn (ho' pins s4 σ H4 y z' u w' _ I4 r2 r4 q4) fun d' s5 ⟨z2,H5,I5,r5,k2,e2,q5⟩=>?_))
    subst e2
    cases r5
    exact wpAny_truthy_bool ⟨H5,I5,q5⟩
theorem line63:(sizeLine:Nat)<2 ^ 63:=by rw [sizeLine_eq]; decide
theorem vals1 {x:V} {us:List Value} (r:Vals [x] us):∃ u,us=[u]∧RelV x u:=by
  cases r with
  | cons r1 r2=>cases r2; exact ⟨_,rfl,r1⟩
theorem call_int1:CallR X (.type "int") (fun xs H Q=>(∃ i,xs=[.int i]∧Q (.int i) H)∨∃ k,xs=[.bl k]∧Q (.int (if k then 1 else 0)) H):=by
  intro pins s σ H xs us Q I r h
  rcases h with ⟨i,rfl,q⟩ | ⟨k,rfl,q⟩
  · obtain ⟨u,rfl,t,rfl⟩:=vals1 r
    exact call_int_int ⟨.int i,H,I,⟨_,rfl⟩,q⟩
  · obtain ⟨u,rfl,r1⟩:=vals1 r
    cases r1
    exact call_int_bool ⟨.int (if k then 1 else 0),H,I.tok _,⟨_,rfl⟩,q⟩
end
end L2
namespace L2
open PySem PySem.Spec PyProof.Rows
structure ObjM (h:Heap) (x dx C:Addr) (mA:Str→Option Value):Prop where
  obj:h.get? x=some (PySem.W.instObj C dx)
  ns:h.Ns1 dx mA
  ne:dx≠x
theorem lookIn_ns {h:Heap} {dx:Addr} {mA:Str→Option Value} (n:h.Ns1 dx mA):∃ od,h.get? dx=some od∧∀ name,PySem.W.lookIn name od=some (mA name):=by
  obtain ⟨o,es,ep,ho,hd,hk,_,hm⟩:=n
  refine ⟨o,ho,fun name=>?_⟩
  have e:=hm name
  unfold nsFind findBy at e
  rw [← Array.find?_toList] at e
  unfold PySem.W.lookIn
  rw [hd]
  dsimp only
  split
  · rename_i y q
    rw [q] at e
    exact congrArg some e
  · rename_i q
    rw [q] at e
    have a:es.toList.any (·.refKey)=false:=by
      rw [List.any_eq_false]
      intro y hy
      obtain ⟨z,t,hkey⟩:=hk y (Array.mem_toList_iff.mp hy)
      simp [DictEntry.refKey,hkey]
    have a':¬ es.toList.any (·.refKey)=true:=by rw [a]; exact Bool.false_ne_true
    rw [if_neg a']
    exact congrArg some e
theorem ObjM.look {h:Heap} {x dx C:Addr} {mA:Str→Option Value} (I:ObjM h x dx C mA):∃ od,PySem.W.InstAt h x (PySem.W.instObj C dx) C (some od)∧∀ name,PySem.W.lookIn name od=some (mA name) :=
  let ⟨od,ho,hl⟩:=lookIn_ns I.ns
  ⟨od,⟨I.obj,rfl,rfl,ho⟩,hl⟩
section
variable {prog:Program} {w:World} {A:Around} {E:Value→Shared→Prop} {s:Shared} {K:PySem.W.Frag} {x dx C f:Addr} {mA:Str→Option Value} {name:Str} {v:Value}
end
theorem RelO.some_of {v:V} {o:Option Value} (r:RelO (some v) o):∃ u,o=some u∧RelV v u:=by
  cases o with
  | none=>exact (show False from r).elim
  | some u=>exact ⟨u,rfl,r⟩
section
variable {P:Program} {w:World} {H H':Hp} {h h':Heap} {a C dx:Addr} {fs fs':List (Str×V)}
theorem ins_get (hok:HOk P w H h) (e:H a=some (.ins C dx fs)):∃ mA,ObjM h a dx C mA∧(∀ f,RelO (fs.lookup f) (mA f))∧PySem.Within mA (fs.map (·.1))∧fs.length≤1000∧H dx=some (.own a):=by
  obtain ⟨d,z,ne,ob,mA,n,r,q⟩:=(show ObjOk P w H h a (.ins C dx fs) from hok a _ e)
  exact ⟨mA,⟨ob,n,ne⟩,r,q,z,d⟩
end
structure Cls (K:PySem.W.Frag) (C:Addr):Prop where
  pg:PySem.W.plainGet K C Str.empty=true
  hd:PySem.W.hasDictIn K C=true
  po:PySem.W.plainOver K C=true
  sa:PySem.W.findIn K (.ref C) "__setattr__" = some (some (.builtin "object.__setattr__"))
theorem Cls.get {K:PySem.W.Frag} {C:Addr} (c:Cls K C) (f:Str):PySem.W.plainGet K C f=true:=c.pg
structure Con (K:PySem.W.Frag) (C:Addr) (f:Str) (v:V) (u:Value):Prop where
  at_:PySem.W.findIn K (.ref C) f=some (some u)
  rel:RelV v u
  get:PySem.W.specialIn K u "__get__" = some none
  cp:PySem.W.copiedNames.contains f=false
structure Meth (K:PySem.W.Frag) (C:Addr) (m:Str) (f:Addr):Prop where
  at_:PySem.W.findIn K (.ref C) m=some (some (.ref f))
  fn:PySem.W.isFn K (.ref f)=true
  kp:PySem.W.keepIn K (.ref f)=true
section
variable {X:Cx} {pins:List (Addr×Obj)} {σ:St} {H:Hp} {s:Shared} {a C dx:Addr} {fs:List (Str×V)} {f:Str} {v:V} {A:Around} {E:Value→Shared→Prop}
end
section
variable {X:Cx} {o e value:Expr} {f:Str} {pos pos' tpos:Pos} {ta tv:TE}
end
section
variable {X:Cx} {pins:List (Addr×Obj)} {σ:St} {H:Hp} {s:Shared} {A:Around} {E:Value→Shared→Prop} {Q:Value→Shared→Prop} {c:Value} {b:Bool}
inductive TyOf (K:PySem.W.Frag) (H:Hp):V→Value→Prop where
  | non:TyOf K H .non (.type "NoneType")
  | bl (x:Bool):TyOf K H (.bl x) (.type "bool")
  | int (i:Int):TyOf K H (.int i) (.type "int")
  | str (x:Str):TyOf K H (.str x) (.type "str")
  | flt (x:UInt64):TyOf K H (.flt x) (.type "float")
  | lst {a:Addr} {xs:List V} (e:H a=some (.lst xs)):TyOf K H (.ref a) (.type "list")
  | frz {a:Addr} {o:Obj} {xs:List V} (e:H a=some (.frz o (.lst xs))):TyOf K H (.ref a) (.type "list")
  | tup {a:Addr} {xs:List V} (e:H a=some (.tup xs)):TyOf K H (.ref a) (.type "tuple")
  | dK {a:Addr} {kvs:List (Key×V)} (e:H a=some (.dK kvs)):TyOf K H (.ref a) (.type "dict")
  | dT {a:Addr} {kvs:List (List Key×V)} (e:H a=some (.dT kvs)):TyOf K H (.ref a) (.type "dict")
  | ins {a C dx:Addr} {fs:List (Str×V)} (e:H a=some (.ins C dx fs)) (cl:Cls K C) (ha:PySem.W.findIn K (.ref C) "__class__" = some (some (.builtin "object.__class__")))
      (hn:PySem.W.specialIn K (.builtin "object.__class__") "__get__" = some (some (.builtin "getset_descriptor.__get__"))) (htk:PySem.W.takesIn K (.builtin "object.__class__")=some true)
      (hm:PySem.W.mroIn K C (.type "object")=some true):TyOf K H (.ref a) (.ref C)
theorem isinst_ok {x:V} {u t:Value} (I:Inv X pins σ H s) (rx:RelV x u) (ty:TyOf X.K H x t) (e:PySem.W.kitOne X.K t c=some b) (h:∀ tk,Q (.bool b) { s with toks:=tk }) :
    wpAny (model X.prog X.w) A (call (.builtin "isinstance") [u,c]) Q E s:=by
  cases ty with
  | non=>cases (show u=Value.none from rx); exact PySem.W.kia_one PySem.W.kitx_none I.kIn True.intro e (fun z=>nomatch z) h
  | bl y=>cases (show u=Value.bool y from rx); exact PySem.W.kia_one PySem.W.kitx_bool I.kIn True.intro e (fun z=>nomatch z) h
  | int i=>obtain ⟨t,q⟩:=(show ∃ t,u=Value.int i t from rx); cases q; exact PySem.W.kia_one PySem.W.kitx_int I.kIn True.intro e (fun z=>nomatch z) h
  | str y=>obtain ⟨t,q⟩:=(show ∃ t,u=Value.str y t from rx); cases q; exact PySem.W.kia_one PySem.W.kitx_str I.kIn True.intro e (fun z=>nomatch z) h
  | flt y=>obtain ⟨t,q⟩:=(show ∃ t,u=Value.float y t from rx); cases q; exact PySem.W.kia_one PySem.W.kitx_float I.kIn True.intro e (fun z=>nomatch z) h
  | @lst a xs ea =>
    cases (show u=Value.ref a from rx)
    obtain ⟨_,_,n,_,h1⟩:=(show ObjOk X.prog X.w H s.heap a (.lst xs) from I.hok a _ ea)
    exact PySem.W.kia_one PySem.W.kitx_list I.kIn ⟨_,h1,rfl⟩ e (fun z=>nomatch z) h
  | @frz a ob xs ea =>
    cases (show u=Value.ref a from rx)
    obtain ⟨_,_,_,n,_,h1⟩:=(show ObjOk X.prog X.w H s.heap a (.frz ob (.lst xs)) from I.hok a _ ea)
    exact PySem.W.kia_one PySem.W.kitx_list I.kIn ⟨_,h1,rfl⟩ e (fun z=>nomatch z) h
  | @tup a xs ea =>
    cases (show u=Value.ref a from rx)
    obtain ⟨_,_,_,p⟩:=(show ObjOk X.prog X.w H s.heap a (.tup xs) from I.hok a _ ea)
    obtain ⟨o,h1,h2,_⟩:=p
    exact PySem.W.kia_one PySem.W.kitx_tuple I.kIn ⟨o,h1,h2⟩ e (fun z=>nomatch z) h
  | @dK a kvs ea =>
    cases (show u=Value.ref a from rx)
    obtain ⟨_,_,vs,_,p⟩:=(show ObjOk X.prog X.w H s.heap a (.dK kvs) from I.hok a _ ea)
    obtain ⟨o,es,ep,h1,h2,_⟩:=p
    exact PySem.W.kia_one PySem.W.kitx_dict I.kIn ⟨o,h1,h2.1⟩ e (fun z=>nomatch z) h
  | @dT a kvs ea =>
    cases (show u=Value.ref a from rx)
    obtain ⟨_,_,xs,_,o,es,ep,h1,h2,_⟩:=(show ObjOk X.prog X.w H s.heap a (.dT kvs) from I.hok a _ ea)
    exact PySem.W.kia_one PySem.W.kitx_dict I.kIn ⟨o,h1,h2.1⟩ e (fun z=>nomatch z) h
  | @ins a C dx fs ea cl ha hn htk hm =>
    cases (show u=Value.ref a from rx)
    obtain ⟨mA,O,_⟩:=ins_get I.hok ea
    obtain ⟨od,J,_⟩:=O.look
    exact PySem.W.kia_one (PySem.W.kitx_own (cl.get _) cl.hd ha hn htk hm) I.kIn J e (fun z=>nomatch z) h
end
end L2
namespace L2
open PySem PySem.Spec PyProof.Rows
structure Room (k:Nat) (A:Around):Prop where
  dp:A.depth+3*k+5<recursionLimit
  un:A.units+16*k+200<cLine
  hd:130≤k→A.handled=none
theorem Room.mono {j k:Nat} {A:Around} (r:Room k A) (h:j≤k):Room j A:=⟨by have:=r.dp; omega,by have:=r.un; omega,fun z=>r.hd (by omega)⟩
theorem Room.deeper {k:Nat} {A:Around} (r:Room (k+1) A) (env:Env):Room k (A.deeper env) :=
  ⟨by have:=r.dp; show A.depth+1+3*k+5<_; omega,by have:=r.un; show A.units+3+16*k+200<_; omega,fun z=>r.hd (by omega)⟩
theorem Room.depth {k:Nat} {A:Around} (r:Room k A):A.depth<recursionLimit:=by have:=r.dp; omega
theorem Room.units {k:Nat} {A:Around} (r:Room k A):A.units+64<cLine:=by have:=r.un; omega
def tNil:TA:=fun _ H Q=>Q [] H
def tCons (ta:TE) (tr:TA):TA:=fun σ H Q=>ta σ H fun x H1=>tr σ H1 fun xs H2=>Q (x::xs) H2
section
variable {X:Cx} {e:Expr} {es:List Expr} {te:TE} {t:TA} {pos:Pos}
theorem pa_nil:PA X [] tNil:=fun _ _ _ _ H Q I h=>Calls.spliced_nil ⟨[],H,I,.nil,h⟩
theorem pa_cons (ha:PE X e te) (hr:PA X es t) (hs:starEach (e::es) X.env=(false,eval e X.env)::starEach es X.env:=by rfl):PA X (e::es) (tCons te t):=by
  intro pos pins s σ H Q I h
  rw [hs]
  show wpAny _ _ (spliced ((false,eval e X.env)::backTo pos (starEach es X.env))) _ _ s
  refine Calls.spliced_cons (thn (ha pins s σ H _ I h) fun u s1 ⟨x,H1,I1,r1,q1⟩=>?_)
  exact thn (hr pos pins s1 σ H1 _ I1 q1) fun us s2 ⟨xs,H2,I2,r2,q2⟩=>⟨x::xs,H2,I2,.cons r1 r2,q2⟩
def tTup (t:TA):TE:=fun σ H Q=>t σ H fun xs H1=>xs.length≤sizeLine∧∀ p,H1 p=none→Q (.ref p) (upd H1 p (.tup xs))
def tLst (t:TA):TE:=fun σ H Q=>t σ H fun xs H1=>xs.length≤sizeLine∧∀ p,H1 p=none→Q (.ref p) (upd H1 p (.lst xs))
theorem pe_tup {x1} (h:PA X es t):PE X (.Tuple es x1 pos) (tTup t):=by
  intro pins s σ H Q I hq
  refine wpAny_Tuple_spliced (thn (h pos pins s σ H _ I hq) fun us s1 ⟨xs,H1,I1,r,z,q⟩=>⟨by rw [← r.length]; exact z,?_⟩)
  have hf:H1 s1.heap.objs.size=none:=I1.hok.fresh (Nat.le_refl _)
  refine ⟨.ref s1.heap.objs.size,upd H1 s1.heap.objs.size (.tup xs),I1.laid (t':=s1.toks) (fun b u e=>Heap.get?_push_of_some _ e) (Nat.le_refl _) ?_,rfl,q _ hf⟩
  exact ⟨z,us,r,⟨_,Heap.get?_push_size _ rfl,rfl,_,rfl⟩⟩
theorem pe_lst (h:PA X es t):PE X (.List es pos) (tLst t):=by
  intro pins s σ H Q I hq
  refine wpAny_List_spliced (thn (h pos pins s σ H _ I hq) fun us s1 ⟨xs,H1,I1,r,z,q⟩=>⟨by rw [← r.length]; exact z,?_⟩)
  have hf:H1 s1.heap.objs.size=none:=I1.hok.fresh (Nat.le_refl _)
  refine ⟨.ref s1.heap.objs.size,upd H1 s1.heap.objs.size (.lst xs),I1.laid (t':=s1.toks) (fun b u e=>Heap.get?_push_of_some _ e) (Nat.le_refl _) ?_,rfl,q _ hf⟩
  exact ⟨z,us,0,r,Heap.get?_push_size _ rfl⟩
end
abbrev Sp:=List V→Hp→VK→XK→Prop
abbrev CXT:=Option Value→List Env→Hp→Shared→XK→Value→Shared→Prop
structure Env0 (P:Program) (w:World) (K:PySem.W.Frag) (mg:Str→Option Value) (base:Heap) (A:Around) (outer:List Env) (s:Shared) (H:Hp):Prop where
  frames:A.frames=some outer
  mod:Mod K mg base
  bs:∀ b o,base.get? b=some o→s.heap.get? b=some o∧H b=none
  bsz:base.objs.size≤s.heap.objs.size
  funs:s.heap.FunFrames base outer
  frf:∀ b∈frs outer,H b=none
  hok:HOk P w H s.heap
  bare:AllBare s.gens
  hdl:HB base A
def CE (outer:List Env) (P:Program) (w:World) (H:Hp) (s:Shared) (Q:VK) (u:Value) (s':Shared):Prop :=
  ∃ v H',s'.os=s.os∧AllBare s'.gens∧Un (frs outer) [] H H' s.heap s'.heap∧HOk P w H' s'.heap∧RelV v u∧Q v H'
def CR (CX:CXT) (hh:Option Value) (outer:List Env) (P:Program) (w:World) (H:Hp) (s:Shared) (Q:VK) (E:XK) (r:Result) (s':Shared):Prop :=
  match r with
  | .ok (.ret u)=>CE outer P w H s Q u s'
  | .ok _=>False
  | .error e=>CX hh outer H s E e s'
structure FnOk (P:Program) (w:World) (K:PySem.W.Frag) (mg:Str→Option Value) (base:Heap) (CX:CXT) (k:Nat) (f:Addr) (fd:FuncData) (ps:List Str) (sp:Sp):Prop where
  len:∀ vs H Q E,sp vs H Q E→vs.length=ps.length
  run:∀ (A:Around) (outer:List Env) (s:Shared) (H:Hp) (args:Args) (us:List Value) (vs:List V) (Q:VK) (E:XK),Room k A→Env0 P w K mg base A outer s H→BindsTo s fd args (ps.zip us)→Vals vs us→sp vs H Q E →
    codeAny (model P w) A (.call (.ref f) args) (CR CX A.handled outer P w H s Q E) s
section
variable {X:Cx} {pins:List (Addr×Obj)} {σ:St} {H:Hp} {s s':Shared}
theorem Inv.after {Q:VK} {u:Value} (I:Inv X pins σ H s) (h:CE X.stack X.prog X.w H s Q u s'):EP X pins σ Q u s':=by
  obtain ⟨v,H',os,bare,un,hok,r,q⟩:=h
  obtain ⟨hh,g,d,t,os'⟩:=s'
  obtain rfl:os'=s.os:=os
  exact ⟨v,H',I.call (h':=hh) (g':=g) (d':=d) (t':=t) (ch:=[]) un hok bare (fun b z=>absurd z (by simp)),r,q⟩
end
def tCall (sp:Sp) (dvs:List V) (E:XK) (t:TA):TE:=fun σ H Q=>t σ H fun vs H1=>sp (vs++dvs) H1 Q E
def Binds (K:PySem.W.Frag) (fd:FuncData) (ps:List Str) (ds:List Value):Prop :=
  ∀ (s:Shared) (us:List Value),K.In s.heap→(us++ds).length=ps.length→BindsTo s fd ⟨us,[]⟩ (ps.zip (us++ds))
theorem Binds.all {K:PySem.W.Frag} {fd:FuncData} {ps:List Str} (h:∀ us:List Value,us.length=ps.length→bindArgs fd ⟨us,[]⟩=pure (ps.zip us)):Binds K fd ps []:=fun s us _ hl=>by
  rw [List.append_nil] at hl ⊢
  exact .of_eq (h us hl)
def Passes (CX:CXT) (X:Cx) (E:XK):Prop:=∀ (pins:List (Addr×Obj)) (σ:St) (H:Hp) (s:Shared) (e:Value) (s':Shared),Inv X pins σ H s→CX X.A.handled X.stack H s E e s'→X.xe e s'
section
variable {X:Cx} {CX:CXT} {k:Nat} {f C:Addr} {fd:FuncData} {ps:List Str} {sp:Sp} {dvs:List V} {ds:List Value} {E:XK} {x m:Str} {p pos apos:Pos} {e o:Expr} {es:List Expr} {ta:TE} {t:TA}
end
def PK (X:Cx) (kws:List Keyword) (t:TA):Prop :=
  ∀ (pos:Pos) (pins:List (Addr×Obj)) (s:Shared) (σ:St) (H:Hp) (Q:List V→Hp→Prop),Inv X pins σ H s→t σ H Q→wpAny (model X.prog X.w) X.A (evalAll ((backToKw pos (keywordEach kws X.env)).map (·.2))) (AP X pins σ Q) X.xe s
section
variable {X:Cx} {CX:CXT} {k:Nat} {f C:Addr} {fd:FuncData} {ps ks:List Str} {sp:Sp} {E:XK} {x m:Str} {p pos apos kpos:Pos} {e o:Expr} {es:List Expr} {kws:List Keyword} {te ta:TE} {t tk:TA} {nm:Option Str}
theorem pk_nil:PK X [] tNil:=fun _ _ _ _ H Q I h=>wpAny_evalAll_nil ⟨[],H,I,.nil,h⟩
theorem pk_cons (ha:PE X e te) (hr:PK X kws t):PK X (⟨nm,e,kpos⟩::kws) (tCons te t):=by
  intro pos pins s σ H Q I h
  show wpAny _ _ (evalAll ((do let v ← eval e X.env; standAt pos; pure v)::(backToKw pos (keywordEach kws X.env)).map (·.2))) _ _ s
  refine wpAny_evalAll_cons (wpAny_bind (thn (ha pins s σ H _ I h) fun u s1 ⟨x,H1,I1,r1,q1⟩=>wpAny_bind (wpAny_standAt (wpAny_pure ?_))))
  exact thn (hr pos pins s1 σ H1 _ I1 q1) fun us s2 ⟨xs,H2,I2,r2,q2⟩=>⟨x::xs,H2,I2,.cons r1 r2,q2⟩
end
structure FnScope (N P:List Str) (sc:Scope):Prop where
  kind:sc.kind=.function
  co:sc.isCoroutine=false
  gen:sc.isGenerator=false
  nd:N.Nodup
  pre:N.take P.length=P
  par:∀ x∈P,sc.names.lookup x=some .local∨sc.names.lookup x=some .cell
  nofree:∀ y∈sc.names,y.2≠.free
theorem bindL_out {kindOf:Str→Option NameKind} {x:Str}:∀ {binds:List (Str×Value)} {m:Str→Option Value},(∀ v,(x,v)∉binds)→bindL kindOf binds m x=m x
  | [],_,_=>rfl
  | (n,v)::r,m,h=>by
    unfold bindL
    rw [bindL_out fun w hw=>h w (List.mem_cons_of_mem _ hw)]
    split
    · have:x≠n:=by rintro rfl; exact h v List.mem_cons_self
      simp [this]
    · rfl
theorem bindC_out {kindOf:Str→Option NameKind} {x:Str}:∀ {binds:List (Str×Value)} {m:Str→Option Value},(∀ v,(x,v)∉binds)→bindC kindOf binds m x=m x
  | [],_,_=>rfl
  | (n,v)::r,m,h=>by
    unfold bindC
    rw [bindC_out fun w hw=>h w (List.mem_cons_of_mem _ hw)]
    split
    · rfl
    · have:x≠n:=by rintro rfl; exact h v List.mem_cons_self
      simp [this]
theorem bindL_get {kindOf:Str→Option NameKind} {x:Str} {v:Value}:∀ {P:List Str} {vs:List Value} {i:Nat} {m:Str→Option Value},P.Nodup→P[i]?=some x→vs[i]?=some v→kindOf x=some .local →
    bindL kindOf (P.zip vs) m x=some v
  | [],_,_,_,_,h,_,_=>by simp at h
  | _::_,[],_,_,_,_,h,_=>by simp at h
  | p::P,w::vs,0,m,nd,h1,h2,hk=>by
    simp at h1 h2; subst h1; subst h2
    show bindL kindOf ((p,w)::P.zip vs) m p=_
    unfold bindL
    rw [bindL_out fun v hv=>(List.nodup_cons.mp nd).1 (List.of_mem_zip hv).1,if_pos hk]
    simp
  | p::P,w::vs,i+1,m,nd,h1,h2,hk=>by
    show bindL kindOf ((p,w)::P.zip vs) m x=_
    unfold bindL
    exact bindL_get (i:=i) (List.nodup_cons.mp nd).2 (by simpa using h1) (by simpa using h2) hk
theorem bindC_get {kindOf:Str→Option NameKind} {x:Str} {v:Value}:∀ {P:List Str} {vs:List Value} {i:Nat} {m:Str→Option Value},P.Nodup→P[i]?=some x→vs[i]?=some v→kindOf x≠some .local →
    bindC kindOf (P.zip vs) m x=some v
  | [],_,_,_,_,h,_,_=>by simp at h
  | _::_,[],_,_,_,_,h,_=>by simp at h
  | p::P,w::vs,0,m,nd,h1,h2,hk=>by
    simp at h1 h2; subst h1; subst h2
    show bindC kindOf ((p,w)::P.zip vs) m p=_
    unfold bindC
    rw [bindC_out fun v hv=>(List.nodup_cons.mp nd).1 (List.of_mem_zip hv).1,if_neg hk]
    simp
  | p::P,w::vs,i+1,m,nd,h1,h2,hk=>by
    show bindC kindOf ((p,w)::P.zip vs) m x=_
    unfold bindC
    exact bindC_get (i:=i) (List.nodup_cons.mp nd).2 (by simpa using h1) (by simpa using h2) hk
def start (N:List Str) (vs:List V):St:=vs.map some++List.replicate (N.length-vs.length) none
def cxOf (CX:CXT) (P:Program) (w:World) (K:PySem.W.Frag) (mg:Str→Option Value) (base:Heap) (N:List Str) (qual:Str) (scope:Scope) (f:Addr) (cd:Value) (A:Around) (outer:List Env) (s:Shared) (H:Hp) (E:XK):Cx where
  prog:=P
  w:=w
  K:=K
  mg:=mg
  base:=base
  A:=A.deeper (envOfC qual scope s.heap.objs.size f cd)
  N:=N
  s₀:=s
  H₀:=H
  env:=envOfC qual scope s.heap.objs.size f cd
  outer:=outer
  stack:=envOfC qual scope s.heap.objs.size f cd::outer
  ex:=[]
  calm:=true
  fn:=fun _=>true
  pn:=[]
  xe:=fun e s'=>wpAny (model P w) (A.deeper (envOfC qual scope s.heap.objs.size f cd)) (leaving (envOfC qual scope s.heap.objs.size f cd) e) (fun _ s''=>CX A.handled outer H s E e s'') (fun e' s''=>CX A.handled outer H s E e' s'') s'
theorem cell_has {sc:Scope} {n:Nat} {x:Str} (h:sc.names.lookup x=some .cell):∃ c,(cellsFrom n sc.names []).lookup x=some c:=by
  have q:=PySem.W.cellsFrom_some sc.names n [] (.inl h)
  exact Option.isSome_iff_exists.mp q
theorem inv_start {CX:CXT} {P:Program} {w:World} {K:PySem.W.Frag} {mg:Str→Option Value} {base:Heap} {N ps:List Str} {qual:Str} {scope:Scope} {f:Addr} {cd:Value} {A:Around} {outer:List Env} {s s1:Shared} {H:Hp} {E:XK} {us:List Value} {vs:List V}
    (S:FnScope N ps scope) (e0:Env0 P w K mg base A outer s H) (hl:vs.length=ps.length) (r:Vals vs us)
    (x:InCallC s s.heap.objs.size (bindL (envOfC qual scope s.heap.objs.size f cd).kindOf (ps.zip us) fun _=>none) (cellsFrom (s.heap.objs.size+1) scope.names []) (bindC (envOfC qual scope s.heap.objs.size f cd).kindOf (ps.zip us) fun _=>none) s1) :
    Inv (cxOf CX P w K mg base N qual scope f cd A outer s H E) [] (start N vs) H s1:=by
  have hpl:ps.length≤N.length:=by have:=congrArg List.length S.pre; rw [List.length_take] at this; omega
  obtain ⟨h1,tk,rfl,hk⟩:=x.done
  have noA:∀ b:Addr,b∉(cxOf CX P w K mg base N qual scope f cd A outer s H E).ex:=fun b z=>absurd (show b∈([]:List Addr) from z) (by simp)
  refine ⟨⟨e0.mod,S.kind,rfl,rfl,Nat.le_refl _,fun y z c h1 h2=>?_,fun y hy=>?_,fun y c _ h=>?_,fun _=>e0.hdl.toP,Around.frames_deeper e0.frames,.inr ⟨rfl,rfl⟩,fun b z=>absurd z (noA b),e0.bs,e0.bsz,fun b _ _=>noA b,fun b z=>absurd z (noA b),e0.funs,e0.frf⟩,
    rfl,e0.bare,Un.kept hk,⟨_,x.toInCall.ns,fun i y v h1 h2 h3=>?_⟩,fun y c h=>⟨_,x.cell y c h⟩,e0.hok.fresh (Nat.le_refl _),fun y c h=>?_,fun p hp=>absurd (show p∈([]:List (Addr×Obj)) from hp) (by simp),e0.hok.kept hk,?_⟩
  · exact name_of_addr x.apart (PySem.mem_of_lookup h1) (PySem.mem_of_lookup h2)
  · have hy:scope.names.lookup y=some .cell∨scope.names.lookup y=some .free:=hy
    rcases hy with hy | hy
    · exact cell_has hy
    · exact absurd rfl (S.nofree _ (PySem.mem_of_lookup hy))
  · exact Nat.le_of_lt (x.above y c (PySem.mem_of_lookup h))
  · have hi:i<vs.length:=by
      unfold start at h2
      by_cases hi:i<vs.length
      · exact hi
      · rw [List.getElem?_append_right (by simpa using hi)] at h2
        rw [List.getElem?_replicate] at h2
        split at h2 <;> cases h2
    have ha:vs[i]?=some v:=by
      unfold start at h2
      rw [List.getElem?_append_left (by simpa using hi),List.getElem?_map] at h2
      cases e:vs[i]? with
      | none=>rw [e] at h2; cases h2
      | some a=>rw [e] at h2; cases h2; rfl
    obtain ⟨u,hu,rv⟩:=r.get ha
    have hp:ps[i]?=some y:=by
      rw [← S.pre,List.getElem?_take_of_lt (by omega)]; exact h1
    have ndP:ps.Nodup:=by rw [← S.pre]; exact S.nd.sublist (List.take_sublist _ _)
    refine ⟨u,rv,?_⟩
    rcases S.par y (List.mem_of_getElem? hp) with k | k
    · exact .inl ⟨k,bindL_get ndP hp hu k⟩
    · obtain ⟨c,e⟩:=cell_has (n:=s.heap.objs.size+1) k
      refine .inr ⟨.inl k,c,e,?_⟩
      have q:=x.cell y c e
      rw [bindC_get ndP hp hu (by show scope.names.lookup y≠_; rw [k]; decide)] at q
      exact q
  · exact e0.hok.fresh (Nat.le_of_lt (x.above y c (PySem.mem_of_lookup h)))
  · unfold start
    show _=N.length
    rw [List.length_append,List.length_map,List.length_replicate]
    omega
theorem fn_of {CX:CXT} {P:Program} {w:World} {K:PySem.W.Frag} {mg:Str→Option Value} {base:Heap} {k:Nat} {f:Addr} {name qual:Str} {params:Arguments} {body:List Stmt} {scope:Scope} {dV kV doc pm cdv ct oc:Value} {an od:Option Addr}
    {osl:Array (Option Value)} {N ps:List Str} {sp:Sp} (lk:K.lookup f=some ⟨oc,od,.func (PySem.W.fnOf name qual params body scope dV kV doc pm an cdv ct),osl⟩) (hcd:PySem.W.codeIn K cdv qual=true) (S:FnScope N ps scope)
    (len:∀ vs H Q E,sp vs H Q E→vs.length=ps.length)
    (hbody:∀ (A:Around) (outer:List Env) (s:Shared) (H:Hp) (vs:List V) (Q:VK) (E:XK),Room k (A.deeper (envOfC qual scope s.heap.objs.size f cdv))→sp vs H Q E →
      ∃ t,PSs (cxOf CX P w K mg base N qual scope f cdv A outer s H E) body t∧t { nx:=fun _ H'=>Q .non H',rt:=Q } (start N vs) H) :
    FnOk P w K mg base CX (k+1) f (PySem.W.fnOf name qual params body scope dV kV doc pm an cdv ct) ps sp:=by
  refine ⟨len,fun A outer s H args us vs Q E hr e0 hb r hsp=>?_⟩
  have hl:=len _ _ _ _ hsp
  have KX:K.In s.heap:=e0.mod.kin.keeps fun b o e=>(e0.bs b o e).1
  have lim:s.heap.NoLimit:=e0.mod.nolimit.keeps fun b o e=>(e0.bs b o e).1
  have hkind:∀ y∈ps.zip us,scope.names.lookup y.1=some .local∨(scope.names.lookup y.1=some .cell∧((cellsFrom (s.heap.objs.size+1) scope.names []).lookup y.1).isSome=true):=fun ⟨n,v⟩ hy=>by
    rcases S.par n (List.of_mem_zip hy).1 with q | q
    · exact .inl q
    · exact .inr ⟨q,PySem.W.cellsFrom_some _ _ _ (.inl q)⟩
  refine codeAny_call_function hr.depth (KX _ _ lk) rfl S.co S.gen rfl (PySem.W.codeRec_of KX hcd) (hb _ _ _ _ ?_)
  refine wpAny_newFunctionEnv_cells S.kind hkind fun env he s1 x=>?_
  subst he
  refine ⟨lim.keeps x.toInCall.keep,codeAny_func ?_⟩
  obtain ⟨t,ht,hq⟩:=hbody A outer s H vs Q E (hr.deeper _) hsp
  have I:Inv (cxOf CX P w K mg base N qual scope f cdv A outer s H E) [] (start N vs) H s1:=inv_start S e0 hl r x
  refine wpAny_mono (ht [] s1 (start N vs) H _ I hq) (fun fl s' hs=>?_) fun e s' hs=>hs
  have fin:∀ {σ':St} {H':Hp} {v:V} {u:Value},Inv (cxOf CX P w K mg base N qual scope f cdv A outer s H E) [] σ' H' s'→RelV v u→Q v H'→CE outer P w H s Q u s' :=
    fun {σ' H' v u} J rv q=>⟨v,H',J.os,J.bare,J.base,J.hok,rv,q⟩
  cases fl with
  | ret u =>
    obtain ⟨v,σ',H',J,rv,q⟩:=hs
    exact fin J rv q
  | next =>
    obtain ⟨σ',H',J,q⟩:=hs
    exact fin (v:=V.non) (u:=Value.none) J rfl q
  | brk =>
    obtain ⟨_,_,_,q⟩:=hs
    exact False.elim q
  | cont =>
    obtain ⟨_,_,_,q⟩:=hs
    exact False.elim q
end L2
namespace L2
open PySem PySem.Spec PyProof.Rows
section
variable {X:Cx} {x:Str} {p pos:Pos} {e:Expr} {es:List Expr} {t:TA} {id T:String} {r:List V→Hp→VK→Prop}
def tCB (r:List V→Hp→VK→Prop) (t:TA):TE:=fun σ H Q=>t σ H fun vs H1=>r vs H1 Q
theorem pe_callB (hc:CallR X (.builtin id) r) (hg:Gl X x) (hm:X.mg x=none) (hv:bootBuiltins x=some (.builtin id)) (ha:PA X (e::es) t) (hn:x ≠ "__name__" := by decide) (hdb:(x==("__debug__" : Str))=false:=by decide)
    (he:starEach (e::es) X.env=(false,eval e X.env)::starEach es X.env:=by rfl) (hpl:(backTo pos (starEach es X.env)).any (·.1)=false:=by rfl):PE X (.Call (.Name x p) (e::es) [] pos) (tCB r t):=by
  intro pins s σ H Q I h
  refine wpAny_Call_Name_kw (ld_blt I hg hm hv ?_ hn hdb)
  exact PyProof.Rows.callWith_builtin1 (thn (ha pos pins s σ H _ I h) fun us s1 ⟨vs,H1,I1,r1,q1⟩=>hc pins s1 σ H1 vs us Q I1 r1 q1) he hpl
theorem pe_callTy (hc:CallR X (.type T) r) (hg:Gl X x) (hm:X.mg x=none) (hv:bootBuiltins x=some (.type T)) (ha:PA X (e::es) t) (hn:x ≠ "__name__" := by decide) (hdb:(x==("__debug__" : Str))=false:=by decide)
    (he:starEach (e::es) X.env=(false,eval e X.env)::starEach es X.env:=by rfl) (hpl:(backTo pos (starEach es X.env)).any (·.1)=false:=by rfl):PE X (.Call (.Name x p) (e::es) [] pos) (tCB r t):=by
  intro pins s σ H Q I h
  refine wpAny_Call_Name_kw (ld_blt I hg hm hv ?_ hn hdb)
  exact PyProof.Rows.callWith_type1 (thn (ha pos pins s σ H _ I h) fun us s1 ⟨vs,H1,I1,r1,q1⟩=>hc pins s1 σ H1 vs us Q I1 r1 q1) he hpl
end
end L2
namespace HT
open PySem PyProof.Rows
section
open PySem.SeqAt
open PySem.AutoSeq1 (wpAny_loadPart')
open PySem.MeetsSeq PySem.MeetsSeq2 PySem.MeetsSeq3
end
section
variable {prog:Program} {w:World} {A:Around} {E:Value→Shared→Prop} {s:Shared}
theorem cat_tup {t b:Addr} {vs ws:List Value} {Q:Value→Shared→Prop} (ht:IsTup s.heap t vs.toArray) (hb:IsTup s.heap b ws.toArray) (hv:vs≠[])
    (h1:ws=[]→Q (.ref t) s) (h2:ws≠[]→Q (.ref s.heap.objs.size) { s with heap:=s.heap.push { cls:=.type "tuple",data:=.seq (vs++ws).toArray } })
    (hsz:vs.length+ws.length≤sizeLine):wpAny (model prog w) A (binaryOp .Add (.ref t) (.ref b)) Q E s:=by
  obtain ⟨⟨cls,dd,data,sl⟩,ho,hc,n,hd⟩:=id ht
  obtain ⟨⟨cls2,dd2,data2,sl2⟩,ho2,hc2,n2,hd2⟩:=id hb
  simp only at hc hd hc2 hd2
  subst hc hd hc2 hd2
  have e:vs.toArray++ws.toArray=(vs++ws).toArray:=by simp
  by_cases hw:ws=[]
  · exact concat_meets ⟨_,ho,rfl⟩ ⟨_,ho2,rfl⟩ noFill_tuple_add seq_tuple_add PySem.F.slot_tuple_add PySem.F.entry_tuple_add (PySem.F.args_tuple_add_2 _ _)
      (tuple_addW1 t b vs.toArray ws.toArray n n2 dd dd2 sl sl2 (by simpa using hv) (by simp [hw])) ⟨ho,ho2,h1 hw⟩
  · refine concat_meets ⟨_,ho,rfl⟩ ⟨_,ho2,rfl⟩ noFill_tuple_add seq_tuple_add PySem.F.slot_tuple_add PySem.F.entry_tuple_add (PySem.F.args_tuple_add_2 _ _)
      (tuple_addW2 t b vs.toArray ws.toArray n n2 dd dd2 sl sl2 (by simpa using hv) (by simpa using hw) (by rw [List.size_toArray,List.size_toArray]; exact hsz)) ⟨ho,ho2,?_⟩
    rw [e]
    exact h2 hw
def sIx (n d:Nat):Option Int→Nat
  | none=>d
  | some v=>if v<0 then (v+(n:Int)).toNat else min v.toNat n
theorem sIx_none (n d:Nat):sIx n d none=d:=rfl
theorem sIx_nat (n d k:Nat):sIx n d (some (k:Int))=min k n:=by
  show (if (k:Int)<0 then ((k:Int)+(n:Int)).toNat else min (k:Int).toNat n)=min k n
  rw [if_neg (by omega),Int.toNat_natCast]
theorem sIx_le (n d:Nat) (hd:d≤n) (o:Option Int):sIx n d o≤n:=by
  cases o with
  | none=>exact hd
  | some v =>
    show (if v<0 then (v+(n:Int)).toNat else min v.toNat n)≤n
    by_cases hv:v<0
    · rw [if_pos hv]; omega
    · rw [if_neg hv]; exact Nat.min_le_right _ _
theorem clip_eq (v:Int) (n d:Nat):(if v<0 then max (v+(n:Int)) 0 else min v (n:Int))=((sIx n d (some v):Nat):Int):=by
  show (if v<0 then max (v+(n:Int)) 0 else min v (n:Int))=(((if v<0 then (v+(n:Int)).toNat else min v.toNat n):Nat):Int)
  by_cases hv:v<0
  · simp only [if_pos hv]; omega
  · simp only [if_neg hv]; omega
theorem adjust_gen (lo hi:Option Int) (n:Nat):Builtin.Slice.sliceAdjust lo hi 1 (n:Int)=(((sIx n 0 lo:Nat):Int),((sIx n n hi:Nat):Int)):=by
  have h1:¬ ((1:Int)<0):=by omega
  unfold Builtin.Slice.sliceAdjust
  simp only [h1,if_false]
  refine Prod.ext ?_ ?_
  · cases lo with
    | none=>rfl
    | some v=>exact clip_eq v n 0
  · cases hi with
    | none=>rfl
    | some v=>exact clip_eq v n n
theorem places_gen (i j:Nat):Builtin.Slice.slicePlaces (i:Int) (j:Int) 1=j-i:=by
  unfold Builtin.Slice.slicePlaces
  have h1:(1:Int)>0:=by omega
  simp only [h1,if_true,Int.ediv_one]
  split <;> omega
theorem slicePart_ {v:Value} {o:Option Int} {Q:Option Int→Shared→Prop} (p:IsPart v o) (h:Q o s):wpAny (model prog w) A (Builtin.Slice.slicePartIndex v) Q E s:=by
  cases p with
  | none=>exact slicePart_none h
  | int i t=>exact slicePart_int h
theorem sliceApplied_gen {sl:Addr} {vl vu:Value} {lo hi:Option Int} {n:Nat} {Q:Int×Int×Nat→Shared→Prop} (hs:s.heap.IsSliceOf sl vl vu .none) (pl:IsPart vl lo) (pu:IsPart vu hi)
    (h:Q (((sIx n 0 lo:Nat):Int),1,sIx n n hi-sIx n 0 lo) s):wpAny (model prog w) A (Builtin.Slice.sliceApplied (.ref sl) (pure (n:Int))) Q E s:=by
  obtain ⟨os,hos,hcs,hds⟩:=id hs
  unfold Builtin.Slice.sliceApplied Builtin.Slice.sliceFields
  refine wpAny_bind (wpAny_bind (wpAny_field hos hds (x:=vl) rfl (wpAny_bind (wpAny_field hos hds (x:=vu) rfl (wpAny_bind (wpAny_field hos hds (x:=.none) rfl (wpAny_pure ?_)))))))
  refine wpAny_bind (slicePart_none ?_)
  show wpAny _ _ (if ((1:Int)==0)=true then _ else _) _ _ s
  rw [if_neg (by decide)]
  refine wpAny_bind (slicePart_ pl (wpAny_bind (slicePart_ pu (wpAny_bind (wpAny_pure ?_)))))
  show wpAny _ _ (match Builtin.Slice.sliceAdjust lo hi 1 (n:Int) with | (lo,hi)=>pure (lo,(1:Int),Builtin.Slice.slicePlaces lo hi 1)) _ _ s
  rw [adjust_gen lo hi n]
  show wpAny _ _ (pure (((sIx n 0 lo:Nat):Int),(1:Int),Builtin.Slice.slicePlaces ((sIx n 0 lo:Nat):Int) ((sIx n n hi:Nat):Int) 1)) _ _ s
  rw [places_gen]
  exact wpAny_pure h
theorem pick_gen (xs:Array Value) (i k:Nat):((List.range k).filterMap fun (m:Nat)=>xs[((i:Int)+(m:Int)*1).toNat]?).toArray=((xs.toList.drop i).take k).toArray:=by
  have e:(fun (m:Nat)=>xs[((i:Int)+(m:Int)*1).toNat]?)=fun m=>xs[i+m]?:=by
    funext m
    have:((i:Int)+(m:Int)*1).toNat=i+m:=by omega
    rw [this]
  rw [e]
  have:=pick_run xs i k
  rw [List.filterMap_map] at this
  have e2:((fun x=>xs[x]?) ∘ fun x=>i+x)=fun m=>xs[i+m]?:=rfl
  rw [e2] at this
  rw [this]
theorem getItem_tuple_cut {t sl:Addr} {items:Array Value} {vl vu:Value} {lo hi:Option Int} {Q:Value→Shared→Prop} (ht:IsTup s.heap t items) (hs:s.heap.IsSliceOf sl vl vu .none) (pl:IsPart vl lo) (pu:IsPart vu hi)
    (hw:¬ (sIx items.size 0 lo=0∧sIx items.size items.size hi=items.size))
    (h:Q (.ref s.heap.objs.size) { s with heap:=s.heap.push { cls:=.type "tuple",data:=.seq ((items.toList.drop (sIx items.size 0 lo)).take (sIx items.size items.size hi-sIx items.size 0 lo)).toArray } })
    (hsz:items.size≤sizeLine):wpAny (model prog w) A (getItem (.ref t) (.ref sl)) Q E s:=by
  have htake:sizeOk (.seq ((items.toList.drop (sIx items.size 0 lo)).take (sIx items.size items.size hi-sIx items.size 0 lo)).toArray):=by
    show ((items.toList.drop (sIx items.size 0 lo)).take (sIx items.size items.size hi-sIx items.size 0 lo)).toArray.size≤sizeLine
    rw [List.size_toArray,List.length_take,List.length_drop,Array.length_toList]
    omega
  have hj:sIx items.size items.size hi≤items.size:=sIx_le _ _ (Nat.le_refl _) hi
  obtain ⟨os,hos,hcs,hds⟩:=id hs
  have hTs:s.TypeIs (.ref sl) "slice" := ⟨os,hos,hcs⟩
  unfold getItem
  try with_reducible refine wpAny_holding ?_
  first | refine wpAny_bind (wpAny_pure ?_) | skip
  refine wpAny_bind (wpAny_sequenceKey ht.typeIs (by decide) ?_)
  refine wpAny_bind (wpAny_callSpecial?_slot (name:=Str.ofString "__getitem__") ht.typeIs PyProof.Rows.slot_tuple_getitem
    (wpAny_call_entry PyProof.Rows.slot_tuple_getitem ht.typeIs entry_tuple_getitem ?_ (args_tuple_getitem _ _)))
  show wpAny _ _ (Builtin.Tuple.tupleItemsOf (.ref t) >>= _) _ _ s
  refine wpAny_bind (tupleItemsOf_ ht ?_)
  refine wpAny_bind (wpAny_typeOf hTs ?_)
  rw [if_pos (by decide)]
  refine wpAny_bind (sliceApplied_gen hs pl pu ?_)
  have hno:¬ ((((sIx items.size 0 lo:Nat):Int)==0 && (1:Int)==1 && (sIx items.size items.size hi-sIx items.size 0 lo)==items.size)=true):=by
    intro q
    rw [Bool.and_eq_true,Bool.and_eq_true] at q
    have q1:((sIx items.size 0 lo:Nat):Int)=0:=eq_of_beq q.1.1
    have q2:sIx items.size items.size hi-sIx items.size 0 lo=items.size:=eq_of_beq q.2
    exact hw ⟨by omega,by omega⟩
  show wpAny _ _ (if (((sIx items.size 0 lo:Nat):Int)==0 && (1:Int)==1 && (sIx items.size items.size hi-sIx items.size 0 lo)==items.size)=true then _ else _) _ _ s
  rw [if_neg hno,pick_gen]
  first
    | exact wpAny_bind (m:=Builtin.Tuple.tupleExact _) (wpAny_newObj_type (wpAny_pure ⟨_,rfl,wpAny_pure h⟩) htake)
    | exact wpAny_bind (m:=Builtin.Tuple.tupleExact _) (wpAny_newObj_type (wpAny_bind (wpAny_pure (wpAny_pure ⟨_,rfl,wpAny_pure h⟩))) htake)
    | exact wpAny_bind (wpAny_bind (m:=Builtin.Tuple.tupleExact _) (wpAny_newObj_type (wpAny_pure (wpAny_pure ⟨_,rfl,wpAny_pure h⟩)) htake))
    | exact wpAny_bind (wpAny_bind (m:=Builtin.Tuple.tupleExact _) (wpAny_newObj_type (wpAny_pure ⟨_,rfl,wpAny_pure h⟩) htake))
end
end HT
namespace L2
open PySem PySem.Spec PyProof.Rows
abbrev TO:=St→Hp→(Option Int→Hp→Prop)→Prop
def PO (X : Cx) (e : Option Expr) (t : TO) : Prop :=
  ∀ (pins:List (Addr×Obj)) (s:Shared) (σ:St) (H:Hp) (Q:Option Int→Hp→Prop),Inv X pins σ H s→t σ H Q →
    wpAny (model X.prog X.w) X.A (evalPart e X.env) (fun u s'=>∃ o H',Inv X pins σ H' s'∧IsPart u o∧Q o H') X.xe s
def tNoPart:TO:=fun _ H Q=>Q none H
def tPart (t:TE):TO:=fun σ H Q=>t σ H fun x H1=>∃ i,x=.int i∧Q (some i) H1
section
variable {X:Cx} {e:Expr} {te:TE} {lo hi:Option Expr} {tl th:TO} {pos p2:Pos}
theorem po_none:PO X none tNoPart:=by
  intro pins s σ H Q I h
  rw [evalPart_none]
  exact wpAny_pure ⟨none,H,I,.none,h⟩
theorem po_some (h:PE X e te):PO X (some e) (tPart te):=by
  intro pins s σ H Q I hw
  rw [evalPart_some]
  refine thn (h pins s σ H _ I hw) fun u s1 ⟨x,H1,I1,r1,q1⟩=>?_
  obtain ⟨i,rfl,q⟩:=q1
  obtain ⟨t,rfl⟩:=r1
  exact ⟨some i,H1,I1,.int i t,q⟩
def SlR (X : Cx) (r : V → Option Int → Option Int → Hp → VK → Prop) : Prop :=
  ∀ (pins:List (Addr×Obj)) (s:Shared) (σ:St) (H:Hp) (x:V) (v vl vu:Value) (lo hi:Option Int) (sl:Addr) (Q:VK),Inv X pins σ H s→RelV x v→s.heap.IsSliceOf sl vl vu .none→IsPart vl lo→IsPart vu hi→r x lo hi H Q →
    ∃ T id,typeLookup (.type T) "__getitem__" = pure (some (.builtin id))∧s.TypeIs v T∧wpAny (model X.prog X.w) X.A (getItem v (.ref sl)) (EP X pins σ Q) X.xe s
def tSl (r:V→Option Int→Option Int→Hp→VK→Prop) (te:TE) (tl th:TO):TE:=fun σ H Q=>te σ H fun x H1=>tl σ H1 fun l H2=>th σ H2 fun u H3=>r x l u H3 Q
theorem pe_slice {r:V→Option Int→Option Int→Hp→VK→Prop} (hr:SlR X r) (he:PE X e te) (hl:PO X lo tl) (hu:PO X hi th):PE X (.Subscript e (.Slice lo hi none p2) pos) (tSl r te tl th):=by
  intro pins s σ H Q I h
  refine Subscript_ (thn (he pins s σ H _ I h) fun v s1 ⟨x,H1,I1,r1,q1⟩=>?_)
  refine wpAny_Slice (thn (hl pins s1 σ H1 _ I1 q1) fun vl s2 ⟨l,H2,I2,pl,q2⟩=>thn (hu pins s2 σ H2 _ I2 q2) fun vu s3 ⟨u,H3,I3,pu,q3⟩=>?_)
  rw [evalPart_none]
  refine wpAny_pure ?_
  have I4:Inv X pins σ H3 { s3 with heap:=s3.heap.push { cls:=.type "slice",data:=.fields #[vl,vu,.none] } }:=I3.kept (t':=s3.toks) fun b ob q=>Heap.get?_push_of_some _ q
  obtain ⟨T,id,hT,ht,hg⟩:=hr pins { s3 with heap:=s3.heap.push { cls:=.type "slice",data:=.fields #[vl,vu,.none] } } σ H3 x v vl vu l u s3.heap.objs.size Q I4 r1 (Heap.IsSliceOf.new ..) pl pu q3
  show wpAny (model X.prog X.w) X.A (subscriptTail e (.Slice lo hi none p2) v (.ref s3.heap.objs.size)) (EP X pins σ Q) X.xe { s3 with heap:=s3.heap.push { cls:=.type "slice",data:=.fields #[vl,vu,.none] } }
  exact tail_any (ops:=[.ref s3.heap.objs.size,v]) ht hT hg (by with_unfolding_all rfl)
def cutV (xs:List V) (lo hi:Option Int):List V:=(xs.drop (HT.sIx xs.length 0 lo)).take (HT.sIx xs.length xs.length hi-HT.sIx xs.length 0 lo)
theorem cutV_length (xs:List V) (lo hi:Option Int):(cutV xs lo hi).length≤xs.length:=by
  unfold cutV
  rw [List.length_take,List.length_drop]
  omega
def rSlT (K:PySem.W.Frag):V→Option Int→Option Int→Hp→VK→Prop:=fun x lo hi H Q=>∃ a xs,x=.ref a∧SqT K H a xs ∧
  ¬ (HT.sIx xs.length 0 lo=0∧HT.sIx xs.length xs.length hi=xs.length)∧∀ p,H p=none→Q (.ref p) (upd H p (.tup (cutV xs lo hi)))
theorem sl_tup:SlR X (rSlT X.K):=by
  intro pins s σ H x v vl vu lo hi sl Q I rx hs pl pu h
  obtain ⟨a,xs,rfl,hx,hw,q⟩:=h
  cases rx
  obtain ⟨its,r,ht,hz⟩:=I.tuple hx
  have hlen:its.toArray.size=xs.length:=by rw [List.size_toArray]; exact r.length.symm
  refine ⟨"tuple",_,PyProof.Rows.slot_tuple_getitem.lookup,ht.typeIs,?_⟩
  refine HT.getItem_tuple_cut ht hs pl pu (by rw [hlen]; exact hw) ?_ (by rw [hlen]; exact hz)
  rw [hlen]
  refine ⟨.ref s.heap.objs.size,_,I.laid (t':=s.toks) (o:=.tup (cutV xs lo hi)) (fun b ob q=>Heap.get?_push_of_some _ q) (Nat.le_refl _) ?_,rfl,q _ (I.hok.fresh (Nat.le_refl _))⟩
  exact ⟨Nat.le_trans (cutV_length xs lo hi) hz,_,(r.drop (HT.sIx xs.length 0 lo)).take (HT.sIx xs.length xs.length hi-HT.sIx xs.length 0 lo),IsTup.new _ _⟩
def rCatT (K:PySem.W.Frag):R2:=fun x y H Q=>∃ a b xs ys,x=.ref a∧y=.ref b∧SqT K H a xs∧SqT K H b ys∧xs≠[]∧xs.length+ys.length≤sizeLine ∧
  (ys=[]→Q (.ref a) H)∧(ys≠[]→∀ p,H p=none→Q (.ref p) (upd H p (.tup (xs++ys))))
theorem Vals.nil_iff {xs:List V} {us:List Value} (r:Vals xs us):us=[]↔xs=[]:=by
  cases r with
  | nil=>simp
  | cons _ _=>simp
theorem op_catT:OpR X (binaryOp .Add) (rCatT X.K):=by
  intro pins s σ H x y v u Q I rx ry h
  obtain ⟨a,b,xs,ys,rfl,rfl,ha,hb,hx,hz,q1,q2⟩:=h
  cases rx
  cases ry
  obtain ⟨its,r1,p1,_⟩:=I.tuple ha
  obtain ⟨its2,r2,p2,_⟩:=I.tuple hb
  refine HT.cat_tup p1 p2 (fun z=>hx (r1.nil_iff.mp z)) (fun z=>⟨.ref a,H,I,rfl,q1 (r2.nil_iff.mp z)⟩) (fun z=>?_) (by rw [← r1.length,← r2.length]; exact hz)
  refine ⟨.ref s.heap.objs.size,_,I.laid (t':=s.toks) (o:=.tup (xs++ys)) (fun b ob q=>Heap.get?_push_of_some _ q) (Nat.le_refl _) ?_,rfl,q2 (fun w=>z (r2.nil_iff.mpr w)) _ (I.hok.fresh (Nat.le_refl _))⟩
  exact ⟨by rw [List.length_append]; exact hz,_,r1.append r2,IsTup.new _ _⟩
end
end L2
namespace L2
open PySem PySem.Spec PyProof.Rows
def ixN (n:Nat) (i:Int):Option Nat:=if 0≤i then (if i<n then some i.toNat else none) else if -(n:Int)≤i then some (i+n).toNat else none
def atI {α:Type} (xs:List α) (i:Int):Option α:=(ixN xs.length i).bind fun j=>xs[j]?
theorem ixN_seq {n:Nat} {i:Int} {j:Nat} (h:ixN n i=some j):seqIndex? i n=some j∧j<n∧-(n:Int)≤i∧i<n:=by
  unfold ixN at h
  by_cases h0:0≤i
  · rw [if_pos h0] at h
    by_cases h1:i<n
    · rw [if_pos h1] at h
      have e:i.toNat=j:=Option.some.inj h
      exact ⟨by rw [seqIndex_of h0 h1,e],by omega,by omega,h1⟩
    · rw [if_neg h1] at h; cases h
  · rw [if_neg h0] at h
    by_cases h1:-(n:Int)≤i
    · rw [if_pos h1] at h
      have e:(i+n).toNat=j:=Option.some.inj h
      exact ⟨by rw [seqIndex_neg (by omega) h1,e],by omega,h1,by omega⟩
    · rw [if_neg h1] at h; cases h
theorem atI_get {α:Type} {xs:List α} {i:Int} {v:α} (h:atI xs i=some v):∃ j,seqIndex? i xs.length=some j∧xs[j]?=some v∧j<xs.length∧-(xs.length:Int)≤i∧i<xs.length:=by
  unfold atI at h
  cases e:ixN xs.length i with
  | none=>rw [e] at h; cases h
  | some j =>
    rw [e] at h
    obtain ⟨h1,h2,h3,h4⟩:=ixN_seq e
    exact ⟨j,h1,h,h2,h3,h4⟩
theorem atI_nat {α:Type} {xs:List α} {j:Nat} {v:α} (h:xs[j]?=some v):atI xs (j:Int)=some v:=by
  have hj:j<xs.length:=(List.getElem?_eq_some_iff.mp h).1
  have e:ixN xs.length (j:Int)=some j:=by
    unfold ixN
    rw [if_pos (by omega),if_pos (by omega)]; simp
  unfold atI; rw [e]; exact h
def PlainIx (b:Expr):Prop:=∀ o i,subscripted b false o i=operate [o,i] (getItem o i)
def IxR (X : Cx) (r : R2) : Prop :=
  ∀ (value slice:Expr) (pins:List (Addr×Obj)) (s:Shared) (σ:St) (H:Hp) (x y:V) (v u:Value) (Q:VK),Inv X pins σ H s→RelV x v→RelV y u→r x y H Q →
    subscripted slice false v u=operate [v,u] (getItem v u)→wpAny (model X.prog X.w) X.A (subscriptTail value slice v u) (EP X pins σ Q) X.xe s
def MtR (X : Cx) (id : String) (r : V → List V → Hp → VK → Prop) : Prop :=
  ∀ (pins:List (Addr×Obj)) (s:Shared) (σ:St) (H:Hp) (x:V) (xs:List V) (v:Value) (us:List Value) (Q:VK),Inv X pins σ H s→RelV x v→Vals xs us→r x xs H Q →
    wpAny (model X.prog X.w) X.A (call (.builtin id) (v::us)) (EP X pins σ Q) X.xe s
section
variable {X:Cx} {a b:Expr} {ta tb:TE} {pos:Pos}
theorem pe_ix {r:R2} (hr:IxR X r) (ha:PE X a ta) (hb:PE X b tb) (hs:PlainIx b):PE X (.Subscript a b pos) (tOp r ta tb):=by
  intro pins s σ H Q I h
  exact Subscript_ (binT ha hb I h fun v u s2 x y H2 I2 rx ry q=>hr a b pins s2 σ H2 x y v u Q I2 rx ry q (hs _ _))
def rIxL (K:PySem.W.Frag):R2:=fun x y H Q=>∃ p xs i v,x=.ref p∧y=.int i∧SqL K H p xs∧atI xs i=some v∧Q v H
def rIxT (K:PySem.W.Frag):R2:=fun x y H Q=>∃ p xs i v,x=.ref p∧y=.int i∧SqT K H p xs∧atI xs i=some v∧Q v H
theorem ix_list:IxR X (rIxL X.K):=by
  intro value slice pins s σ H x y v u Q I rx ry h hs
  obtain ⟨p,xs,i,z,rfl,rfl,hq,he,q⟩:=h
  cases rx
  obtain ⟨t,rfl⟩:=ry
  obtain ⟨its,r,pl,hz⟩:=I.list hq
  obtain ⟨j,h1,h2,h3,h4,h5⟩:=atI_get he
  obtain ⟨w,ew,rw'⟩:=r.get h2
  have hl:=r.length
  have hn:=line63
  have fin:EP X pins σ Q w s:=⟨z,H,I,rw',q⟩
  by_cases h0:0≤i
  · have hj:i.toNat=j:=by
      rw [seqIndex_of h0 h5] at h1
      exact Option.some.inj h1
    exact item_listR pl.isList h0 (by omega) (by rw [hj]; simpa using ew) fin hs
  · have hj:(i+(its.toArray.size:Int)).toNat=j:=by
      rw [seqIndex_neg (by omega) h4] at h1
      rw [List.size_toArray,← hl]
      exact Option.some.inj h1
    exact subscriptTail_builtinR (x:=w) pl.isList.typeIs slot_list_getitem.lookup
      (wpAny_getItem_list_neg (Q:=fun r s'=>r=w∧EP X pins σ Q r s') pl.isList (by omega) (by rw [List.size_toArray] <;> omega) (by omega) (by rw [hj]; simpa using ew) ⟨rfl,fin⟩) hs
theorem ix_tup:IxR X (rIxT X.K):=by
  intro value slice pins s σ H x y v u Q I rx ry h hs
  obtain ⟨p,xs,i,z,rfl,rfl,hq,he,q⟩:=h
  cases rx
  obtain ⟨t,rfl⟩:=ry
  obtain ⟨its,r,pl,hz⟩:=I.tuple hq
  obtain ⟨j,h1,h2,h3,h4,h5⟩:=atI_get he
  obtain ⟨w,ew,rw'⟩:=r.get h2
  have hl:=r.length
  have hn:=line63
  have fin:EP X pins σ Q w s:=⟨z,H,I,rw',q⟩
  exact subscriptTail_builtinR (x:=w) pl.typeIs slot_tuple_getitem.lookup
    (getItem_tuple (j:=j) (Q:=fun r s'=>r=w∧EP X pins σ Q r s') pl (by omega) (by omega) (by rw [List.size_toArray,← hl]; exact h1) (by simpa using ew) ⟨rfl,fin⟩) hs
theorem mapSeq_set (its:List Value) (n j:Nat) (u:Value):Obj.mapSeq (·.setIfInBounds j u) { cls:=.type "list",data:=.seq its.toArray n }={ cls:=.type "list",data:=.seq (its.set j u).toArray n }:=by
  simp [Obj.mapSeq]
theorem Inv.lst {pins:List (Addr×Obj)} {σ:St} {H:Hp} {s:Shared} {p:Addr} {xs:List V} (I:Inv X pins σ H s) (h:H p=some (.lst xs)) :
    ∃ (its:List Value) (n:Nat),Vals xs its∧s.heap.get? p=some { cls:=.type "list",data:=.seq its.toArray n }∧xs.length≤sizeLine:=by
  obtain ⟨z,its,n,r,e⟩:=I.hok p _ h
  exact ⟨its,n,r,e,z⟩
theorem Inv.lstUpd {pins:List (Addr×Obj)} {σ:St} {H:Hp} {s:Shared} {p:Addr} {xs ys:List V} {its its':List Value} {n n':Nat} {f:Obj→Obj} (I:Inv X pins σ H s) (h:H p=some (.lst xs))
    (ho:s.heap.get? p=some { cls:=.type "list",data:=.seq its.toArray n }) (hf:f { cls:=.type "list",data:=.seq its.toArray n }={ cls:=.type "list",data:=.seq its'.toArray n' }) (r:Vals ys its') (hz:ys.length≤sizeLine) (t:Nat) :
    Inv X pins σ (upd H p (.lst ys)) { s with heap:=s.heap.update p f,toks:=t }:=by
  have e:(s.heap.update p f).get? p=some { cls:=.type "list",data:=.seq its'.toArray n' }:=by
    rw [Heap.get?_update_self f ho (by rw [hf] <;> rfl),hf]
  refine I.write (x:=p) (e:=p) (by rw [h]; trivial) (.inl rfl) (fun b u hb q=>(Heap.get?_update_other _ _ (Ne.symm hb)).trans q) ⟨_,e⟩ ?_
  exact ⟨hz,its',n',r,e⟩
def rSetL:V→V→V→Hp→(Hp→Prop)→Prop:=fun o i v H Q=>∃ p xs k j,o=.ref p∧i=.int k∧H p=some (.lst xs)∧ixN xs.length k=some j∧Q (upd H p (.lst (xs.set j v)))
theorem set_list:PSet X rSetL:=by
  intro pins s σ H o i v ov iv u Q I ro ri rv h
  obtain ⟨p,xs,k,j,rfl,rfl,hp,hj,q⟩:=h
  cases ro
  obtain ⟨t,rfl⟩:=ri
  obtain ⟨its,n,r,ho,hz⟩:=I.lst hp
  obtain ⟨h1,h2,h3,h4⟩:=ixN_seq hj
  have hl:=r.length
  have hn:=line63
  have I':Inv X pins σ (upd H p (.lst (xs.set j v))) { s with heap:=s.heap.update p (Obj.mapSeq (·.setIfInBounds j u)) } :=
    I.lstUpd hp ho (mapSeq_set its n j u) (r.set rv j) (by rw [List.length_set]; exact hz) s.toks
  by_cases h0:0≤k
  · have hk:k.toNat=j:=by
      rw [seqIndex_of h0 h4] at h1
      exact Option.some.inj h1
    exact PySem.W.ki_setAt ho h0 (by omega) (by rw [List.size_toArray,← hl]; exact h4) (by rw [hk]; exact ⟨_,I',q⟩)
  · have hk:(k+(its.toArray.size:Int)).toNat=j:=by
      rw [seqIndex_neg (by omega) h3] at h1
      rw [List.size_toArray,← hl]
      exact Option.some.inj h1
    exact PySem.W.ki_setBack ho (by omega) (by rw [List.size_toArray,← hl]; exact h3) (by omega) (by rw [hk]; exact ⟨_,I',q⟩)
theorem slice_bounds (lo hi:Option Int) (n:Nat):(sliceBounds lo hi none n).1=((HT.sIx n 0 lo:Nat):Int)∧(sliceBounds lo hi none n).2.1=((HT.sIx n n hi:Nat):Int)∧(sliceBounds lo hi none n).2.2=1:=by
  refine ⟨?_,?_,rfl⟩
  · cases lo with
    | none=>simp [sliceBounds,HT.sIx]
    | some i =>
      simp only [sliceBounds,HT.sIx,Option.getD_none,show (1:Int)>0 by decide,if_true]
      by_cases h:i<0
      · simp only [h,if_true] <;> omega
      · simp only [h,if_false] <;> omega
  · cases hi with
    | none=>simp [sliceBounds,HT.sIx]
    | some i =>
      simp only [sliceBounds,HT.sIx,Option.getD_none,show (1:Int)>0 by decide,if_true]
      by_cases h:i<0
      · simp only [h,if_true] <;> omega
      · simp only [h,if_false] <;> omega
theorem slicePick_cut (its:List Value) (lo hi:Option Int):slicePick its.toArray lo hi none=((its.drop (HT.sIx its.length 0 lo)).take (HT.sIx its.length its.length hi-HT.sIx its.length 0 lo)).toArray:=by
  obtain ⟨h1,h2,h3⟩:=slice_bounds lo hi its.toArray.size
  unfold slicePick
  rw [h1,h2,h3]
  simp only [sliceRange_one,pick_run,List.size_toArray] <;> rfl
def rSlL (K:PySem.W.Frag):V→Option Int→Option Int→Hp→VK→Prop:=fun x lo hi H Q=>∃ a xs,x=.ref a∧SqL K H a xs∧∀ p,H p=none→Q (.ref p) (upd H p (.lst (cutV xs lo hi)))
theorem sl_list:SlR X (rSlL X.K):=by
  intro pins s σ H x v vl vu lo hi sl Q I rx hs pl pu h
  obtain ⟨a,xs,rfl,hx,q⟩:=h
  cases rx
  obtain ⟨its,r,ht,hz⟩:=I.list hx
  have hlen:=r.length
  refine ⟨"list",_,slot_list_getitem.lookup,ht.isList.typeIs,?_⟩
  refine wpAny_getItem_list_slice ht.isList hs pl pu .none (by simp) ?_ (by rw [List.size_toArray] <;> omega)
  rw [slicePick_cut,← hlen]
  refine ⟨.ref s.heap.objs.size,_,I.laid (t':=s.toks) (o:=.lst (cutV xs lo hi)) (fun b ob q=>Heap.get?_push_of_some _ q) (Nat.le_refl _) ?_,rfl,q _ (I.hok.fresh (Nat.le_refl _))⟩
  exact ⟨Nat.le_trans (cutV_length xs lo hi) hz,_,0,(r.drop (HT.sIx xs.length 0 lo)).take (HT.sIx xs.length xs.length hi-HT.sIx xs.length 0 lo),Heap.get?_push_size _ rfl⟩
def flatV:V→Bool
  | .non=>true
  | .bl _=>true
  | .int _=>true
  | .str _=>true
  | _=>false
def eqV:V→V→Bool
  | .non,.non=>true
  | .bl a,.bl b=>a==b
  | .bl a,.int b=>(if a then 1 else 0)==b
  | .int a,.bl b=>a==(if b then 1 else 0)
  | .int a,.int b=>a==b
  | .str a,.str b=>a==b
  | _,_=>false
theorem eqAt_V {A:Around} {s:Shared} {y x:V} {u v:Value} (ry:RelV y u) (rx:RelV x v) (fy:flatV y=true) (fx:flatV x=true):SeqAt.EqAt A s u v (eqV y x):=by
  cases y with
  | non =>
    cases ry
    cases x with
    | non=>cases rx; exact SeqAt.EqAt.same _
    | bl b=>cases rx; exact SeqAt.EqAt.none_bool b
    | int b=>obtain ⟨t,rfl⟩:=rx; exact SeqAt.EqAt.none_int b t
    | str b=>obtain ⟨t,rfl⟩:=rx; exact SeqAt.EqAt.none_str b t
    | _=>exact absurd (show false=true from fx) Bool.false_ne_true
  | bl a =>
    cases ry
    cases x with
    | non=>cases rx; exact SeqAt.EqAt.bool_none a
    | bl b=>cases rx; exact SeqAt.EqAt.bool_bool a b
    | int b=>obtain ⟨t,rfl⟩:=rx; exact SeqAt.EqAt.bool_int a b t
    | str b=>obtain ⟨t,rfl⟩:=rx; exact SeqAt.EqAt.bool_str a b t
    | _=>exact absurd (show false=true from fx) Bool.false_ne_true
  | int a =>
    obtain ⟨t',rfl⟩:=ry
    cases x with
    | non=>cases rx; exact SeqAt.EqAt.int_none a t'
    | bl b=>cases rx; exact SeqAt.EqAt.int_bool a t' b
    | int b=>obtain ⟨t,rfl⟩:=rx; exact SeqAt.EqAt.int_int a t' b t
    | str b=>obtain ⟨t,rfl⟩:=rx; exact SeqAt.EqAt.int_str a t' b t
    | _=>exact absurd (show false=true from fx) Bool.false_ne_true
  | str a =>
    obtain ⟨t',rfl⟩:=ry
    cases x with
    | non=>cases rx; exact SeqAt.EqAt.str_none a t'
    | bl b=>cases rx; exact SeqAt.EqAt.str_bool a t' b
    | int b=>obtain ⟨t,rfl⟩:=rx; exact SeqAt.EqAt.str_int a t' b t
    | str b=>obtain ⟨t,rfl⟩:=rx; exact SeqAt.EqAt.str_str a t' b t
    | _=>exact absurd (show false=true from fx) Bool.false_ne_true
  | _=>exact absurd (show false=true from fy) Bool.false_ne_true
def eqU (x:V) (u:Value):Bool:=match u with
  | .none=>eqV .non x
  | .bool b=>eqV (.bl b) x
  | .int i _=>eqV (.int i) x
  | .str z _=>eqV (.str z) x
  | _=>false
theorem eqU_of {x y:V} {u:Value} (r:RelV y u) (f:flatV y=true):eqU x u=eqV y x:=by
  cases y with
  | non=>cases r; rfl
  | bl b=>cases r; rfl
  | int i=>obtain ⟨t,rfl⟩:=r; rfl
  | str z=>obtain ⟨t,rfl⟩:=r; rfl
  | _=>exact absurd (show false=true from f) Bool.false_ne_true
theorem any_eqU {x:V}:∀ {xs:List V} {us:List Value},Vals xs us→xs.all flatV=true→us.any (eqU x)=xs.any fun y=>eqV y x
  | _,_,.nil,_=>rfl
  | y::xs,u::us,.cons r t,f=>by
    rw [List.all_cons,Bool.and_eq_true] at f
    rw [List.any_cons,List.any_cons,eqU_of r f.1,any_eqU t f.2]
theorem mem_eqAt {A:Around} {s:Shared} {x:V} {v:Value} (rx:RelV x v) (fx:flatV x=true):∀ {xs:List V} {us:List Value},Vals xs us→xs.all flatV=true→∀ u∈us,SeqAt.EqAt A s u v (eqU x u)
  | _,_,.nil,_=>fun u hu=>by cases hu
  | y::xs,u::us,.cons r t,f=>fun u' hu=>by
    rw [List.all_cons,Bool.and_eq_true] at f
    rcases List.mem_cons.mp hu with rfl | hu
    · rw [eqU_of r f.1]; exact eqAt_V r rx f.1 fx
    · exact mem_eqAt rx fx t f.2 u' hu
def inV (x:V) (xs:List V):Bool:=xs.any fun y=>eqV y x
def rIn (K:PySem.W.Frag) (neg:Bool):R2:=fun x y H Q=>∃ p xs,y=.ref p∧(SqL K H p xs∨SqT K H p xs)∧flatV x=true∧xs.all flatV=true∧Q (.bl (if neg then !inV x xs else inV x xs)) H
theorem op_in_seq:OpR X (compareOp .In) (rIn X.K false):=by
  intro pins s σ H x y v u Q I rx ry h
  obtain ⟨p,xs,rfl,hq,fx,fs,q⟩:=h
  cases ry
  rcases hq with hq | hq
  · obtain ⟨its,r,pl,hz⟩:=I.list hq
    refine SeqAt.in_listAt (eqU x) pl.isList (fun w hw=>mem_eqAt rx fx r fs w (by simpa using hw)) ⟨.bl _,H,I,rfl,?_⟩
    rw [show its.toArray.any (eqU x)=its.any (eqU x) by simp,any_eqU r fs]
    exact q
  · obtain ⟨its,r,pl,hz⟩:=I.tuple hq
    refine SeqAt.in_tupleAt (eqU x) pl (fun w hw=>mem_eqAt rx fx r fs w (by simpa using hw)) ⟨.bl _,H,I,rfl,?_⟩
    rw [show its.toArray.any (eqU x)=its.any (eqU x) by simp,any_eqU r fs]
    exact q
theorem call_len_seq:CallR X (.builtin "len") (fun xs H Q=>∃ p ys,xs=[.ref p]∧(SqL X.K H p ys∨SqT X.K H p ys)∧Q (.int ys.length) H):=by
  intro pins s σ H xs us Q I r h
  obtain ⟨p,ys,rfl,hq,q⟩:=h
  obtain ⟨u,rfl,rx⟩:=vals1 r
  cases rx
  have hn:=line63
  rcases hq with hq | hq
  · obtain ⟨its,r',pl,hz⟩:=I.list hq
    have hlen:=r'.length
    exact Calls.call_len_list pl.isList (by simp only [List.size_toArray] <;> omega) ⟨.int ys.length,H,I.tok _,⟨s.toks+1,by rw [List.size_toArray,hlen]⟩,q⟩
  · obtain ⟨its,r',pl,hz⟩:=I.tuple hq
    have hlen:=r'.length
    exact len_tuple pl (by simp only [List.size_toArray] <;> omega) ⟨.int ys.length,H,I.tok _,⟨s.toks+1,by rw [List.size_toArray,hlen]⟩,q⟩
theorem call_list_of:CallR X (.type "list") (fun xs H Q=>∃ p ys,xs=[.ref p]∧(SqL X.K H p ys∨SqT X.K H p ys)∧∀ l,H l=none→Q (.ref l) (upd H l (.lst ys))):=by
  intro pins s σ H xs us Q I r h
  obtain ⟨p,ys,rfl,hq,q⟩:=h
  obtain ⟨u,rfl,rx⟩:=vals1 r
  cases rx
  have fin:∀ (its:List Value),Vals ys its→ys.length≤sizeLine→∀ (h':Heap) (c':Nat),(∀ b o',s.heap.get? b=some o'→h'.get? b=some o') →
      h'.get? s.heap.objs.size=some { cls:=.type "list",dict:=none,data:=.seq its.toArray c',slots:=#[] }→EP X pins σ Q (.ref s.heap.objs.size) { s with heap:=h' }:=fun its r' hz h' c' kp e =>
    ⟨.ref s.heap.objs.size,_,I.laid (t':=s.toks) kp (Nat.le_refl _) (show ObjOk X.prog X.w _ h' _ (.lst ys) from ⟨hz,its,c',r',e⟩),rfl,q _ (I.hok.fresh (Nat.le_refl _))⟩
  rcases hq with hq | hq
  · obtain ⟨its,r',pl,hz⟩:=I.list hq
    have hlen:=r'.length
    obtain ⟨o,ho,hc,n,hd⟩:=pl.isList
    exact call_list_seq p (.inl rfl) ho hc hd (fun h' c' kp e=>fin its r' hz h' c' kp e) (by simp only [List.size_toArray] <;> omega)
  · obtain ⟨its,r',pl,hz⟩:=I.tuple hq
    have hlen:=r'.length
    obtain ⟨o,ho,hc,n,hd⟩:=pl
    exact call_list_seq p (.inr rfl) ho hc hd (fun h' c' kp e=>fin its r' hz h' c' kp e) (by simp only [List.size_toArray] <;> omega)
theorem call_tuple_of:CallR X (.type "tuple") (fun xs H Q=>∃ p ys,xs=[.ref p]∧((SqL X.K H p ys∧∀ l,H l=none→Q (.ref l) (upd H l (.tup ys)))∨(SqT X.K H p ys∧Q (.ref p) H))):=by
  intro pins s σ H xs us Q I r h
  obtain ⟨p,ys,rfl,h⟩:=h
  obtain ⟨u,rfl,rx⟩:=vals1 r
  cases rx
  rcases h with ⟨hq,q⟩ | ⟨hq,q⟩
  · obtain ⟨its,r',pl,hz⟩:=I.list hq
    have hlen:=r'.length
    refine call_tuple_list pl.isList (fun h' kp=>?_) (by simp only [List.size_toArray] <;> omega)
    have I1:Inv X pins σ H { s with heap:=h' }:=I.kept (t':=s.toks) kp
    have I2:Inv X pins σ (upd H h'.objs.size (.tup ys)) { s with heap:=h'.push { cls:=.type "tuple",data:=.seq its.toArray } } :=
      I1.laid (t':=s.toks) (fun b o e=>Heap.get?_push_of_some _ e) (Nat.le_refl _) (show ObjOk X.prog X.w _ _ _ (.tup ys) from ⟨hz,its,r',IsTup.new _ _⟩)
    exact ⟨.ref h'.objs.size,_,I2,rfl,q _ (I1.hok.fresh (Nat.le_refl _))⟩
  · obtain ⟨its,r',pl,hz⟩:=I.tuple hq
    exact call_tuple_same pl ⟨.ref p,H,I,rfl,q⟩
def tyV (K:PySem.W.Frag) (T:String) (x:V) (H:Hp):Prop:=match x with
  | .str _=>T = "str"
  | .int _=>T = "int"
  | .ref p=>(T = "list" ∧ ∃ xs,SqL K H p xs)∨(T = "tuple" ∧ ∃ o,K.lookup p=some o∧o.cls=.type "tuple" ∧ o.dict=none) ∨
      (T = "dict" ∧ ((∃ kvs,H p=some (.dK kvs))∨∃ kvs,H p=some (.dT kvs)))∨(T = "set" ∧ ∃ S n,H p=some (.set S n))
  | _=>False
theorem tyV_is {pins:List (Addr×Obj)} {σ:St} {H:Hp} {s:Shared} {T:String} {x:V} {v:Value} (I:Inv X pins σ H s) (r:RelV x v) (ty:tyV X.K T x H) :
    s.TypeIs v T∧∀ a,v=.ref a→∃ ob,s.heap.get? a=some ob∧ob.dict=none:=by
  cases x with
  | str z =>
    obtain ⟨t,rfl⟩:=r
    cases (show T = "str" from ty)
    exact ⟨typeIs_str s z t,fun _ e=>nomatch e⟩
  | int i =>
    obtain ⟨t,rfl⟩:=r
    cases (show T = "int" from ty)
    exact ⟨typeIs_int s i t,fun _ e=>nomatch e⟩
  | ref p =>
    cases r
    rcases ty with ⟨rfl,xs,hq⟩ | ⟨rfl,o,hk,hc,hd⟩ | ⟨rfl,hk⟩ | ⟨rfl,S,n,hk⟩
    · obtain ⟨its,_,pl,_⟩:=I.list hq
      refine ⟨pl.isList.typeIs,fun a e=>?_⟩
      cases e
      obtain ⟨o,n,e,c,hd,_⟩:=pl
      exact ⟨o,e,hd⟩
    · refine ⟨⟨o,I.kIn p o hk,hc⟩,fun a e=>?_⟩
      cases e
      exact ⟨o,I.kIn _ o hk,hd⟩
    · have z:∃ o,s.heap.get? p=some o∧o.ExactDict:=by
        rcases hk with ⟨kvs,hk⟩ | ⟨kvs,hk⟩
        · obtain ⟨_,_,_,_,o,_,_,e,ex,_⟩:=I.hok p _ hk
          exact ⟨o,e,ex⟩
        · obtain ⟨_,_,_,_,o,_,_,e,ex,_⟩:=I.hok p _ hk
          exact ⟨o,e,ex⟩
      obtain ⟨o,e,ex⟩:=z
      refine ⟨⟨o,e,ex.1⟩,fun a e2=>?_⟩
      cases e2
      exact ⟨o,e,ex.2.1⟩
    · obtain ⟨o,_,_,_,e,ex,_⟩:=I.hok p _ hk
      refine ⟨⟨o,e,ex.1⟩,fun a e2=>?_⟩
      cases e2
      exact ⟨o,e,ex.2.1⟩
  | _=>exact False.elim ty
def tBM (K:PySem.W.Frag) (T:String) (r:V→List V→Hp→VK→Prop) (to:TE) (t:TA):TE:=fun σ H Q=>to σ H fun x H1=>tyV K T x H1∧t σ H1 fun xs H2=>r x xs H2 Q
variable {o e:Expr} {es:List Expr} {to:TE} {t:TA} {name:Str} {apos cpos:Pos} {T id:String} {r:V→List V→Hp→VK→Prop}
theorem pe_bm (pa:PlainAttrs T) (slot:Slot T name id) (hty:typeOf (.builtin id)=pure (.type "method_descriptor")) (hm:MtR X id r) (ho:PE X o to) (ha:PA X (e::es) t)
    (hbase:attributeBase o name X.env (eval o X.env)=eval o X.env:=by rfl)
    (hfew:((backTo cpos (starEach (e::es) X.env)).all (fun x=>!x.1) && (backToKw cpos (keywordEach [] X.env)).all (fun x=>x.1.isSome)
      && decide ((e::es).length+([]:List Keyword).length+(if ([]:List Keyword).isEmpty then 0 else 1)<30))=true:=by rfl)
    (hline:(apos.endLine==cpos.line)=true:=by rfl) (hs:starEach (e::es) X.env=(false,eval e X.env)::starEach es X.env:=by rfl) (hplain:(backTo cpos (starEach es X.env)).any (·.1)=false:=by rfl) :
    PE X (.Call (.Attribute o name apos) (e::es) [] cpos) (tBM X.K T r to t):=by
  intro pins s σ H Q I h
  refine wpAny_Call_method_late hbase hfew hline rfl (thn (ho pins s σ H _ I h) fun v s1 ⟨x,H1,I1,r1,ty,q1⟩=>?_)
  obtain ⟨h1,h2⟩:=tyV_is I1 r1 ty
  refine ⟨T,id,pa,slot,hty,h1,h2,?_⟩
  have hA:=ha cpos pins s1 σ H1 _ I1 q1
  rw [hs] at hA ⊢
  refine Calls.callWith_builtin (by show (false || (backTo cpos (starEach es X.env)).any (·.1))=false; rw [hplain] <;> rfl) (Calls.evalArgs_plain ?_)
  exact thn hA fun us s2 ⟨vs,H2,I2,r2,q2⟩=>hm pins s2 σ H2 x vs v us Q I2 r1 r2 q2
end
end L2
namespace L2
open PySem PySem.Spec PyProof.Rows
def MtM (X : Cx) (id : String) (r : V → List V → Hp → VK → Prop) : Prop :=
  ∀ (pins:List (Addr×Obj)) (s:Shared) (σ:St) (H:Hp) (x:V) (xs:List V) (v:Value) (us:List Value) (Q:VK),Inv X pins σ H s→RelV x v→Vals xs us→r x xs H Q →
    wpAny (model X.prog X.w) X.A (call (.builtin id) (v::us)) (EP X pins σ Q) X.xe s
theorem Vals.one {x:V} {us:List Value} (h:Vals [x] us):∃ u,us=[u]∧RelV x u:=by
  cases h with
  | cons r e =>
    cases e
    exact ⟨_,rfl,r⟩
theorem Vals.two {x y:V} {us:List Value} (h:Vals [x,y] us):∃ u v,us=[u,v]∧RelV x u∧RelV y v:=by
  cases h with
  | cons r t =>
    cases t with
    | cons q e =>
      cases e
      exact ⟨_,_,rfl,r,q⟩
theorem Vals.rep {xs:List V} {us:List Value} (h:Vals xs us):∀ k:Nat,Vals (List.replicate k xs).flatten (List.replicate k us).flatten
  | 0=>.nil
  | k+1=>by
    rw [List.replicate_succ,List.replicate_succ,List.flatten_cons,List.flatten_cons]
    exact Vals.append h (Vals.rep h k)
theorem foldl_rep (its:List Value):∀ (k:Nat) (acc:List Value),
    List.foldl (fun x1 x2=>x1++x2) acc.toArray (List.replicate k its.toArray)=(acc++(List.replicate k its).flatten).toArray
  | 0,acc=>by simp
  | k + 1, acc => by
    have e:acc.toArray++its.toArray=(acc++its).toArray:=by simp
    have e2:(acc++its)++(List.replicate k its).flatten=acc++(List.replicate (k+1) its).flatten:=by
      rw [List.replicate_succ,List.flatten_cons,List.append_assoc]
    rw [← e2,← foldl_rep its k (acc++its),← e,List.replicate_succ,List.foldl_cons]
section
variable {X:Cx} {pins:List (Addr×Obj)} {σ:St} {H:Hp} {s:Shared} {l b:Addr} {xs ys zs:List V}
theorem Inv.lset {its its':List Value} {n:Nat} {f:Array Value→Array Value} {t':Nat} (I:Inv X pins σ H s) (hH:H l=some (.lst xs))
    (e:s.heap.get? l=some { cls:=.type "list",data:=.seq its.toArray n }) (hf:f its.toArray=its'.toArray) (hv:Vals ys its') (hz:ys.length≤sizeLine) :
    Inv X pins σ (upd H l (.lst ys)) { s with heap:=s.heap.update l (Obj.mapSeq f),toks:=t' }:=by
  have q:=PySem.IsL.update e f
  rw [hf] at q
  refine I.write (x:=l) (e:=l) (by rw [hH]; exact trivial) (.inl rfl) (fun b' u hb hu=>(Heap.get?_update_other s.heap (Obj.mapSeq f) (Ne.symm hb)).trans hu) ⟨_,q⟩ ?_
  exact ⟨hz,its',_,hv,q⟩
theorem Inv.lnew {its:List Value} {t':Nat} (I:Inv X pins σ H s) (hv:Vals ys its) (hz:ys.length≤sizeLine) :
    Inv X pins σ (upd H s.heap.objs.size (.lst ys)) { s with heap:=s.heap.push { cls:=.type "list",data:=.seq its.toArray },toks:=t' } :=
  I.laid (fun _ _ q=>Heap.get?_push_of_some _ q) (Nat.le_refl _) ⟨hz,its,0,hv,Heap.get?_push_size _ rfl⟩
theorem Inv.lstM (I:Inv X pins σ H s) (hH:H l=some (.lst xs)):xs.length≤sizeLine∧∃ (its:List Value) (n:Nat),Vals xs its∧xs.length=its.length∧s.heap.get? l=some { cls:=.type "list",data:=.seq its.toArray n }:=by
  obtain ⟨z,its,n,r,e⟩:=I.hok l _ hH
  exact ⟨z,its,n,r,r.length,e⟩
theorem notLongL {n:Nat} (h:n≤sizeLine):Builtin.List.listTooLong n=false:=by
  unfold Builtin.List.listTooLong
  exact decide_eq_false (by omega)
end
section
variable {X:Cx}
def rAppend:V→List V→Hp→VK→Prop:=fun x vs H Q=>∃ l xs y,x=.ref l∧vs=[y]∧H l=some (.lst xs)∧xs.length<sizeLine∧Q .non (upd H l (.lst (xs++[y])))
theorem mt_append:MtM X "list.append" rAppend:=by
  intro pins s σ H x vs v us Q I rx rv h
  obtain ⟨l,xs,y,rfl,rfl,hH,hz,q⟩:=h
  cases rx
  obtain ⟨u,rfl,ru⟩:=rv.one
  obtain ⟨z,its,n,r,hl,e⟩:=I.lstM hH
  refine call_meets F.slot_list_append ⟨_,e,rfl⟩ F.entry_list_append (F.args_list_append_2 _ _) (PySem.list_append l its.toArray n u (by rw [List.size_toArray]; omega)) ⟨e,?_⟩
  refine ⟨.non,_,I.lset (its':=its++[u]) hH e (by simp) (r.append (.cons ru .nil)) ?_,rfl,q⟩
  rw [List.length_append,List.length_singleton]
  omega
def rExtend:V→List V→Hp→VK→Prop:=fun x vs H Q=>∃ l b xs zs,x=.ref l∧vs=[.ref b]∧H l=some (.lst xs)∧H b=some (.lst zs)∧xs.length+zs.length≤sizeLine∧Q .non (upd H l (.lst (xs++zs)))
theorem mt_extend:MtM X "list.extend" rExtend:=by
  intro pins s σ H x vs v us Q I rx rv h
  obtain ⟨l,b,xs,zs,rfl,rfl,hH,hB,hz,q⟩:=h
  cases rx
  obtain ⟨u,rfl,ru⟩:=rv.one
  cases ru
  obtain ⟨z,its,n,r,hl,e⟩:=I.lstM hH
  obtain ⟨z2,its2,n2,r2,hl2,e2⟩:=I.lstM hB
  have hsz:its.toArray.size+its2.toArray.size≤sizeLine:=by rw [List.size_toArray,List.size_toArray]; omega
  have hlong:¬ (!its.toArray.isEmpty && Builtin.List.listTooLong (its.toArray.size+its2.toArray.size))=true:=by
    rw [notLongL hsz,Bool.and_false]
    exact Bool.false_ne_true
  refine call_meets F.slot_list_extend ⟨_,e,rfl⟩ F.entry_list_extend (F.args_list_extend_2 _ _)
    (AutoSeq1.list_extend_list_list_0 l its.toArray n b its2.toArray n2 hlong (by rw [List.size_toArray]; omega) (by omega)) ⟨e,e2,?_⟩
  refine ⟨.non,_,I.lset (its':=its++its2) hH e (by simp) (r.append r2) ?_,rfl,q⟩
  rw [List.length_append]
  omega
theorem len_rep {α:Type} (xs:List α) (k:Nat):(List.replicate k xs).flatten.length=k*xs.length:=by
  induction k with
  | zero=>simp
  | succ k ih=>rw [List.replicate_succ,List.flatten_cons,List.length_append,ih,Nat.succ_mul,Nat.add_comm]
end
section
variable {prog:Program} {w:World} {A:Around} {E:Value→Shared→Prop} {s:Shared}
end
section
variable {X:Cx}
end
end L2
namespace L2
open PySem PySem.Spec PyProof.Rows
section
variable {κ:Type} [DecidableEq κ]
def valV (kvs:List (κ×V)) (k:κ):Option V:=(kvs.find? fun kv=>decide (kv.1=k)).map (·.2)
theorem valV_pos {p:κ×V} {r:List (κ×V)} {k:κ} (e:p.1=k):valV (p::r) k=some p.2:=by simp [valV,List.find?_cons,e]
theorem valV_neg {p:κ×V} {r:List (κ×V)} {k:κ} (e:¬ p.1=k):valV (p::r) k=valV r k:=by simp [valV,List.find?_cons,e]
theorem valV_any (k:κ):∀ kvs:List (κ×V),(kvs.any fun kv=>decide (kv.1=k))=(valV kvs k).isSome
  | []=>rfl
  | p::r=>by
    rw [List.any_cons]
    by_cases e:p.1=k
    · simp only [valV_pos e,decide_eq_true e,Bool.true_or,Option.isSome_some]
    · rw [valV_neg e,decide_eq_false e,Bool.false_or]; exact valV_any k r
theorem RelO.isSome_eq {o:Option V} {u:Option Value} (r:RelO o u):o.isSome=u.isSome:=by
  cases o with
  | none=>cases u with
    | none=>rfl
    | some _=>exact (show False from r).elim
  | some _=>cases u with
    | none=>exact (show False from r).elim
    | some _=>rfl
theorem KV.val {kvs:List (κ×V)} {vs:List (κ×Value)} (r:KV kvs vs) (k:κ):RelO (valV kvs k) (valueAt vs k):=by
  unfold KV at r
  induction r with
  | nil=>exact True.intro
  | @cons p q ps qs h t ih =>
    obtain ⟨h1,h2⟩:=h
    by_cases e:p.1=k
    · have e':q.1=k:=h1.symm.trans e
      have b:valueAt (q::qs) k=some q.2:=by simp [valueAt,List.find?_cons,e']
      rw [valV_pos e,b]; exact h2
    · have e':¬ q.1=k:=fun z=>e (h1.trans z)
      have b:valueAt (q::qs) k=valueAt qs k:=by simp [valueAt,List.find?_cons,e']
      rw [valV_neg e,b]; exact ih
end
theorem kV_is {P:Program} {w:World} {k:Key} {u:Value} (r:RelV (kV k) u):(mixKind P w).is k u=true:=by
  cases k with
  | inl i=>obtain ⟨t,e⟩:=(show ∃ t,u=Value.int i t from r); subst e; exact mixKind_int P w i t
  | inr x=>obtain ⟨t,e⟩:=(show ∃ t,u=Value.str x t from r); subst e; exact mixKind_str P w x t
theorem items_are {P:Program} {w:World}:∀ {ks:List Key} {us:List Value},Vals (ks.map kV) us→ItemsAre (mixKind P w) ks us
  | [],_,r=>by rw [List.map_nil] at r; cases r; exact .nil
  | k::ks,_,r=>by
    rw [List.map_cons] at r
    cases r with
    | cons h t=>exact .cons (kV_is h) (items_are t)
abbrev KT (H:Hp):List (List Key×V)→List (List Key×Addr×Value)→Prop:=Paired fun p q=>p.1=q.1∧H q.2.1=some (.tup (p.1.map kV))∧RelV p.2 q.2.2
theorem KT.val {H:Hp} {kvs:List (List Key×V)} {xs:List (List Key×Addr×Value)} (r:KT H kvs xs) (k:List Key):RelO (valV kvs k) ((atKey xs k).map (·.2)):=by
  induction r with
  | nil=>exact True.intro
  | @cons p q ps qs h t ih =>
    obtain ⟨h1,_,h2⟩:=h
    by_cases e:p.1=k
    · have e':q.1=k:=h1.symm.trans e
      have b:atKey (q::qs) k=some q.2:=by simp [atKey,List.find?_cons,e']
      rw [valV_pos e,b]; exact h2
    · have e':¬ q.1=k:=fun z=>e (h1.trans z)
      have b:atKey (q::qs) k=atKey qs k:=by simp [atKey,List.find?_cons,e']
      rw [valV_neg e,b]; exact ih
section
variable {P:Program} {w:World} {H:Hp} {h:Heap} {a:Addr}
theorem rd_of {u:HO} (ok:HOk P w H h) (e:Rd H a u):ObjOk P w H h a u:=e.ok ok
theorem dk_rd {kvs:List (Key×V)} (ok:HOk P w H h) (e:Rd H a (.dK kvs)):kvs.length≤sizeLine∧(a==sysModules)=false∧∃ vs,KV kvs vs∧h.DictOf (mixKind P w) a vs :=
  show ObjOk P w H h a (.dK kvs) from rd_of ok e
theorem key_of {ks:List Key} (ok:HOk P w H h) (e:H a=some (.tup (ks.map kV))):(tupleKind (mixKind P w)).is h ks a:=by
  obtain ⟨_,its,r,o,h1,h2,n,h3⟩:=(show ObjOk P w H h a (.tup (ks.map kV)) from ok a _ e)
  exact ⟨o,its.toArray,n,h1,h2,h3,by simpa using items_are r⟩
theorem dt_rd {kvs:List (List Key×V)} (ok:HOk P w H h) (e:Rd H a (.dT kvs)):kvs.length≤sizeLine∧(a==sysModules)=false ∧
    ∃ xs,KT H kvs xs∧h.DictOfH (tupleKind (mixKind P w)) a xs:=by
  obtain ⟨z,y,xs,r,o,es,ep,h1,h2,h3,h4,h5⟩:=(show ObjOk P w H h a (.dT kvs) from rd_of ok e)
  refine ⟨z,y,xs,r,o,es,ep,h1,h2,h3,h4,fun x hx=>?_,h5⟩
  have all:∀ {l:List (List Key×V)} {m:List (List Key×Addr×Value)},KT H l m→∀ x∈m,(tupleKind (mixKind P w)).is h x.1 x.2.1:=by
    intro l m q
    induction q with
    | nil=>intro x hx; exact nomatch hx
    | @cons p q ps qs hq t ih =>
      intro x hx
      rcases List.mem_cons.mp hx with e | hx
      · subst e
        exact key_of ok (by rw [← hq.1]; exact hq.2.1)
      · exact ih x hx
  exact all r x hx
end
def DGet (H:Hp) (a:Addr) (y:V) (r:Option V):Prop :=
  (∃ kvs k,Rd H a (.dK kvs)∧y=kV k∧r=valV kvs k)∨∃ kvs k b,Rd H a (.dT kvs)∧y=.ref b∧H b=some (.tup (k.map kV))∧r=valV kvs k
theorem DGet.k {H:Hp} {a:Addr} {kvs:List (Key×V)} {k:Key} (e:H a=some (.dK kvs)):DGet H a (kV k) (valV kvs k):=.inl ⟨kvs,k,.inl e,rfl,rfl⟩
section
variable {X:Cx} {pins:List (Addr×Obj)} {σ:St} {H:Hp} {s:Shared} {a:Addr} {y v:V} {u r:Value} {o:Option V} {A:Around} {E:Value→Shared→Prop}
theorem Inv.big (I:Inv X pins σ H s):sysModules<s.heap.objs.size:=by
  have h:mainGlobals<s.heap.objs.size:=(I.mod.glob.keeps I.bk).lt
  exact Nat.lt_trans (by decide) h
theorem d_getItem {Q:Value→Shared→Prop} (hu:A.units+1<cLine) (I:Inv X pins σ H s) (g:DGet H a y (some v)) (ry:RelV y u) (h:∀ w' s',Inv X pins σ H s'→RelV v w'→Q w' s') :
    wpAny (model X.prog X.w) A (getItem (.ref a) u) Q E s:=by
  rcases g with ⟨kvs,k,e,ey,l⟩ | ⟨kvs,k,b,e,ey,eb,l⟩
  · subst ey
    obtain ⟨z,hd,vs,rel,dd⟩:=dk_rd I.hok e
    obtain ⟨w',hw,rw'⟩:=RelO.some_of (v:=v) (o:=valueAt vs k) (by rw [l]; exact rel.val k)
    exact wpAny_getItem_of (kV_is ry) dd.mapOf hw (h w' _ (I.tok _) rw')
  · subst ey
    cases (show u=Value.ref b from ry)
    obtain ⟨z,hd,xs,rel,dd⟩:=dt_rd I.hok e
    obtain ⟨w',hw,rw'⟩:=RelO.some_of (v:=v) (o:=(atKey xs k).map (·.2)) (by rw [l]; exact rel.val k)
    obtain ⟨p,hp,hp2⟩:=Option.map_eq_some_iff.mp hw
    refine wpAny_getItem_heap (tupleKind_room_in1 hu) (key_of I.hok eb) dd hp ?_
    rw [hp2]
    exact h w' _ (I.tok _) rw'
theorem d_in {Q:Value→Shared→Prop} (hu:A.units+1<cLine) (I:Inv X pins σ H s) (g:DGet H a y o) (ry:RelV y u) (h:∀ s',Inv X pins σ H s'→Q (.bool o.isSome) s') :
    wpAny (model X.prog X.w) A (compareOp .In u (.ref a)) Q E s:=by
  rcases g with ⟨kvs,k,e,ey,l⟩ | ⟨kvs,k,b,e,ey,eb,l⟩
  · subst ey
    obtain ⟨z,hd,vs,rel,dd⟩:=dk_rd I.hok e
    refine wpAny_in_of (kV_is ry) hd dd.mapOf ?_
    rw [← (rel.val k).isSome_eq,← l]
    exact h _ (I.tok _)
  · subst ey
    cases (show u=Value.ref b from ry)
    obtain ⟨z,hd,xs,rel,dd⟩:=dt_rd I.hok e
    refine wpAny_in_heap (tupleKind_room_in1 hu) (key_of I.hok eb) hd dd ?_
    have q:=(rel.val k).isSome_eq
    rw [Option.isSome_map] at q
    rw [← q,← l]
    exact h _ (I.tok _)
end
section
variable {X:Cx} {pins:List (Addr×Obj)} {σ:St} {H:Hp} {s:Shared} {a:Addr} {kvs:List (Key×V)} {k:Key} {u:Value} {A:Around} {E:Value→Shared→Prop}
end
def NoSl (i:Expr):Prop:=∀ ov iv,subscripted i false ov iv=operate [ov,iv] (getItem ov iv)
theorem subD_of {prog:Program} {w:World} {A:Around} {E:Value→Shared→Prop} {s:Shared} {env:Env} {value slice:Expr} {pos:Pos} {T id:String} {Q:Value→Shared→Prop}
    (hl:typeLookup (.type T) "__getitem__" = pure (some (.builtin id))) (hs:NoSl slice)
    (h:wpAny (model prog w) A (eval value env) (fun o s₁=>wpAny (model prog w) A (eval slice env) (fun i s₂=>s₂.TypeIs o T∧wpAny (model prog w) A (getItem o i) Q E s₂) E s₁) E s) :
    wpAny (model prog w) A (eval (.Subscript value slice pos) env) Q E s:=by
  refine Subscript_ (wpAny_mono h (fun o s₁ h₁=>wpAny_mono h₁ (fun i s₂ h₂=>?_) fun _ _ x=>x) fun _ _ x=>x)
  obtain ⟨hT,h₂⟩:=h₂
  unfold subscriptTail
  refine wpAny_bind ?_
  rw [getitemInPython_of_ne hT.not_modules]
  refine wpAny_bind (wpAny_specialOf hT hl ?_)
  have fin:wpAny (model prog w) A (subscripted slice false o i) (fun r s₃=>wpAny (model prog w) A (letTemporaryGo value o r >>= fun _=>pure r) Q E s₃) E s₂:=by
    rw [hs o i]
    exact wpAny_operating (wpAny_mono h₂ (fun r s₃ h₃=>wpAny_bind (wpAny_letTemporaryGo (wpAny_pure h₃))) fun _ _ x=>x)
  first
    | exact wpAny_pure (wpAny_bind fin)
    | exact wpAny_bind (wpAny_pure (wpAny_bind fin))
    | exact wpAny_bind fin
theorem dict_typeIs {X:Cx} {pins:List (Addr×Obj)} {σ:St} {H:Hp} {s:Shared} {a:Addr} {y:V} {o:Option V} (I:Inv X pins σ H s) (g:DGet H a y o):s.TypeIs (.ref a) "dict" := by
  rcases g with ⟨kvs,k,e,_,_⟩ | ⟨kvs,k,b,e,_,_,_⟩
  · obtain ⟨_,_,vs,_,dd⟩:=dk_rd I.hok e
    exact dd.typeIs
  · obtain ⟨_,_,xs,_,dd⟩:=dt_rd I.hok e
    exact dd.typeIs
def tDGet (td ty:TE):TE:=fun σ H Q=>td σ H fun x H1=>ty σ H1 fun y H2=>∃ a v,x=.ref a∧DGet H2 a y (some v)∧Q v H2
def tDIn (ty td:TE):TE:=fun σ H Q=>ty σ H fun y H1=>td σ H1 fun x H2=>∃ a o,x=.ref a∧DGet H2 a y o∧Q (.bl o.isSome) H2
section
variable {X:Cx} {o i e value:Expr} {pos pos' tpos:Pos} {td ty tv:TE}
theorem pe_dget (hu:X.A.units+1<cLine) (ho:PE X o td) (hi:PE X i ty) (hs:NoSl i):PE X (.Subscript o i pos) (tDGet td ty):=by
  intro pins s σ H Q I h
  refine subD_of PySem.F.slot_dict_getitem.lookup hs (thn (ho pins s σ H _ I h) fun u s1 ⟨x,H1,I1,rx,q1⟩=>thn (hi pins s1 σ H1 _ I1 q1) fun iv s2 ⟨y,H2,I2,ry,a,v,ex,g,q2⟩=>?_)
  subst ex
  obtain rfl:u=Value.ref a:=rx
  exact ⟨dict_typeIs I2 g,d_getItem hu I2 g ry fun w' s3 I3 rw'=>⟨v,H2,I3,rw',q2⟩⟩
theorem pc_din (hu:X.A.units+1<cLine) (hi:PE X i ty) (ho:PE X o td):PC X .In i o (tDIn ty td):=by
  intro pins s σ H Q I h
  refine thn (hi pins s σ H _ I h) fun iv s1 ⟨y,H1,I1,ry,q1⟩=>thn (ho pins s1 σ H1 _ I1 q1) fun u s2 ⟨x,H2,I2,rx,a,ov,ex,g,q2⟩=>?_
  subst ex
  obtain rfl:u=Value.ref a:=rx
  exact d_in hu I2 g ry fun s3 I3=>⟨.bl ov.isSome,H2,I3,rfl,q2⟩
end
theorem dk_empty {P:Program} {w:World} {H:Hp} (h:Heap) (hb:sysModules<h.objs.size):ObjOk P w H (h.push { cls:=.type "dict",data:=.dict #[] }) h.objs.size (.dK []) :=
  ⟨Nat.zero_le _,beq_eq_false_iff_ne.mpr (Ne.symm (Nat.ne_of_lt hb)),[],.nil,Heap.DictOf.new h⟩
def tDNewK:TE:=fun _ H Q=>∀ p,H p=none→Q (.ref p) (upd H p (.dK []))
section
variable {X:Cx} {pos:Pos}
theorem pe_dnewK:PE X (.Dict [] [] pos) tDNewK:=fun pins s σ H Q I h =>
  wpAny_Dict_empty ⟨.ref s.heap.objs.size,_,I.laid (a:=s.heap.objs.size) (o:=.dK []) (t':=s.toks) (fun _ _ q=>Heap.get?_push_of_some _ q) (Nat.le_refl _) (dk_empty s.heap I.big),rfl,h _ (I.hok.fresh (Nat.le_refl _))⟩
end
def tPairs:List (TE×TE)→St→Hp→(List (V×V)→Hp→Prop)→Prop
  | [],_,H,Q=>Q [] H
  | (tk,tv)::r,σ,H,Q=>tk σ H fun x H1=>tv σ H1 fun y H2=>tPairs r σ H2 fun ps H3=>Q ((x,y)::ps) H3
abbrev VV:List (V×V)→List (Value×Value)→Prop:=Paired fun p q=>RelV p.1 q.1∧RelV p.2 q.2
def PPs (X : Cx) (pos : Pos) (keys : List (Option Expr)) (values : List Expr) (trs : List (TE × TE)) : Prop :=
  ∀ (pins:List (Addr×Obj)) (s:Shared) (σ:St) (H:Hp) (Q:List (V×V)→Hp→Prop),Inv X pins σ H s→tPairs trs σ H Q →
    wpAny (model X.prog X.w) X.A (evalPairs (pairTrees keys values X.env pos)) (fun vs s'=>∃ ps H',Inv X pins σ H' s'∧VV ps vs∧Q ps H') X.xe s
structure M1 (X:Cx) (o:Expr) (m:Str) (apos:Pos) (e:Expr) (cpos:Pos):Prop where
  base:attributeBase o m X.env (eval o X.env)=eval o X.env
  few:((backTo cpos (starEach [e] X.env)).all (fun x=>!x.1) && (backToKw cpos (keywordEach [] X.env)).all (fun x=>x.1.isSome)
    && decide (([e]:List Expr).length+([]:List Keyword).length+(if ([]:List Keyword).isEmpty then 0 else 1)<30))=true
  line:(apos.endLine==cpos.line)=true
  trees:backTo cpos (starEach [e] X.env)=[(false,eval e X.env)]
structure M2 (X:Cx) (o:Expr) (m:Str) (apos:Pos) (e f:Expr) (cpos:Pos):Prop where
  base:attributeBase o m X.env (eval o X.env)=eval o X.env
  few:((backTo cpos (starEach [e,f] X.env)).all (fun x=>!x.1) && (backToKw cpos (keywordEach [] X.env)).all (fun x=>x.1.isSome)
    && decide (([e,f]:List Expr).length+([]:List Keyword).length+(if ([]:List Keyword).isEmpty then 0 else 1)<30))=true
  line:(apos.endLine==cpos.line)=true
  trees:backTo cpos (starEach [e,f] X.env)=[(false,eval e X.env),(false,eval f X.env)]
section
variable {X:Cx} {pins:List (Addr×Obj)} {σ:St} {H:Hp} {s:Shared} {a:Addr} {y d:V} {u r:Value} {o:Option V} {A:Around} {E:Value→Shared→Prop}
end
section
variable {X:Cx} {o e f:Expr} {apos cpos:Pos} {td ty tx:TE}
end
section
variable {X:Cx} {pins:List (Addr×Obj)} {σ:St} {H:Hp} {s:Shared} {a:Addr} {kvs:List (Key×V)} {A:Around} {E:Value→Shared→Prop}
end
section
variable {X:Cx} {pins:List (Addr×Obj)} {σ:St} {H:Hp} {s:Shared} {a:Addr} {y:V} {u:Value} {A:Around} {E:Value→Shared→Prop}
end
end L2
namespace Att
open PySem PySem.W PySem.Calls PyProof.Rows
theorem ints_of_wellAll {P:Params} {h:Heap}:∀ (ns:List Int) (vs:List Value),WellAll P h vs (ns.map WData.int)→IntsAre vs ns:=by
  intro ns
  induction ns with
  | nil =>
    intro vs w
    rw [List.map_nil] at w
    cases w
    exact .nil
  | cons n ns ih =>
    intro vs w
    rw [List.map_cons] at w
    cases w with
    | cons a b =>
      cases a
      exact .cons _ _ (ih _ b)
theorem script_of {l:OpenLaw} {n:Nat} (hn:l.most=some n) {P:Params} {h:Heap} {args:List WData} {vals:List Value}
    (hpre:l.row.toRowW.claim.pre args=true) (hwl:WellAll P h vals args) :
    ∃ a vs ns,vals=[Value.ref a]∧args=[WData.list (ns.map WData.int)]∧h.get? a=some { cls:=.type "list",data:=.seq vs.toArray }∧IntsAre vs ns∧ns.length≤n:=by
  have hsh:WShape.hasAll [] args [.list .int]=true:=(pre_splitW hpre).1
  have hc:l.pre.holds [] { args:=args }=true:=(pre_splitW hpre).2
  obtain ⟨d,r,rfl,h1,h2⟩:=hasAllW_cons hsh
  obtain rfl:=hasAllW_nil h2
  obtain ⟨xs,rfl,h3⟩:=hasW_list h1
  obtain ⟨ns,rfl⟩:=items_int h3
  have hlen:ns.length≤n:=by
    unfold OpenLaw.pre at hc
    have h4:(WTm.not (.lt (.lit (.int (n:Int))) (.len (.arg 0)))).holds [] { args:=[.list (ns.map .int)] }=true:=by
      have h4:=(holds_andW hc).1
      rw [hn] at h4
      exact h4
    have h5:=condW_of h4 (w_not (w_lt w_lit (w_len_list (w_arg rfl))))
    rw [List.length_map] at h5
    refine Nat.le_of_not_lt fun q=>?_
    have q':(n:Int)<((ns.length:Nat):Int):=by omega
    first
      | (rw [decide_eq_true q'] at h5; exact absurd h5 (by decide))
      | (simp at h5; omega)
  cases hwl with
  | cons w1 w2 =>
    cases w2
    cases w1 with
    | list ho hall=>exact ⟨_,_,ns,rfl,rfl,ho,ints_of_wellAll ns _ hall,hlen⟩
theorem post_true (l:OpenLaw) (args:List WData):l.row.toRowW.claim.post args (.bool true) args=true :=
  postW_of (r:=l.row.toRowW) (X:=(true==true))
    (show WShape.has [] (.bool true) .bool=true by first | rfl | decide | simp [WShape.has,WShape.arms,WShape.armsAll])
    (show (WTm.eq .res (.lit (.bool true))).value [] { args:=args,res:=some (.bool true),after:=args }=some (.bool (true==true)) from w_eq_bool (w_res rfl) w_lit) rfl
theorem attach_call {l:OpenLaw} {n:Nat} {q:Program} {loose:List Str} {XP:(Str→Option Value)→Heap→Prop} {YP:World→Heap→Prop} {d:DefRec}
    (hn:l.most=some n) (hdf:d.params.defaults=[])
    (call:∀ (w:World) (s₀ s₁:Shared) (mg mb:Str→Option Value) (fa:Addr) (o:Obj) (pm cd doc:Value) (a:Addr) (vs:List Value) (ns:List Int),
      Ground q loose [] XP w s₀ mg mb s₁.heap→YP w s₁.heap →
      s₁.heap.get? fa=some o→o.data=.func (docDef d.name d.params d.body d.scope pm cd doc)→s₁.heap.CodeRec cd d.name→mg d.name=some (.ref fa) →
      s₁.heap.get? a=some { cls:=.type "list",data:=.seq vs.toArray }→IntsAre vs ns→ns.length≤n→s₁.gens=#[] →
      codeAny (model l.prog w) callerA (.call (.ref fa) ⟨[.ref a],[]⟩) (fun r s'=>r=.ok (.ret (.bool true))∧OldK s₁.heap s'.heap∧s'.os=s₁.os∧AllBare s'.gens) s₁) :
    WalkO q loose XP YP l.row.toRowW d [] (fun f vs=>PySem.call f vs):=by
  intro w s₀ s₁ mg mb G Y fa o pm cd doc dV kV ho hd hcd hD hmg hg args vals as hpre hlay hrd hwl hlo
  obtain rfl:dV=.none:=Dflts.none hD hdf
  obtain rfl:kV=.none:=Dflts.noKw hD
  obtain ⟨a,vs,ns,rfl,rfl,hobj,hints,hlen⟩:=script_of hn hpre hwl
  refine enter_call (codeAny_mono (call w s₀ s₁ mg mb fa o pm cd doc a vs ns G Y ho (fd_plain hd) hcd hmg hobj hints hlen hg) fun r s' hq=>?_)
  obtain ⟨rfl,h2,h3,h4⟩:=hq
  exact ⟨.inl ⟨.bool true,.bool true,[],rfl,fun _=>rfl,.bool true,post_true l _,fun _=>⟨List.Pairwise.nil,fun _ hm=>(nomatch hm)⟩⟩,h2,h3,h4⟩
section
variable {prog:Program} {w:World} {A:Around} {E:Value→Shared→Prop} {s:Shared} {K:Frag}
end
end Att
namespace L2
open PySem PySem.Spec PyProof.Rows
theorem vals_ints:∀ {vs:List Value} {ns:List Int},IntsAre vs ns→Vals (ns.map V.int) vs
  | _,_,.nil=>.nil
  | _,_,.cons n t h=>.cons ⟨t,rfl⟩ (vals_ints h)
end L2
namespace L2
open PySem PySem.Spec PyProof.Rows
abbrev KOf {K:PySem.W.Frag} {h:Heap} (_:K.In h):PySem.W.Frag:=K
end L2
namespace L2
open PySem PySem.Spec PyProof.Rows
def inClass (s:Stmt) (j:Nat):Stmt:=match s with
  | .ClassDef _ _ _ body _ _ _ _ _ _ _=>body.getD j (.Pass ⟨0,0,0,0⟩)
  | _=>.Pass ⟨0,0,0,0⟩
def defArgs (s:Stmt):Arguments:=match s with
  | .FunctionDef _ a _ _ _ _ _ _ _ _=>a
  | _=>{ posonlyargs:=[],args:=[],vararg:=none,kwonlyargs:=[],kw_defaults:=[],kwarg:=none,defaults:=[] }
def defBody (s:Stmt):List Stmt:=match s with
  | .FunctionDef _ _ b _ _ _ _ _ _ _=>b
  | _=>[]
def defScope (s:Stmt):Scope:=match s with
  | .FunctionDef _ _ _ _ _ _ sc _ _ _=>sc
  | _=>{ kind:=.function,names:=[],isGenerator:=false,isCoroutine:=false }
abbrev CX0:CXT:=fun _ _ _ _ _ _ _=>False
abbrev E0:XK:=fun _ _ _=>False
theorem pass0 {X:Cx}:Passes CX0 X E0:=fun _ _ _ _ _ _ _ h=>h.elim
structure Fun (K:PySem.W.Frag) (x qual:Str) (st:Stmt) (f:Addr) (fd:FuncData):Prop where
  ex:∃ (oc:Value) (od:Option Addr) (kV doc pm:Value) (an:Option Addr) (cdv ct:Value) (osl:Array (Option Value)),
    fd=PySem.W.fnOf x qual (defArgs st) (defBody st) (defScope st) .none kV doc pm an cdv ct∧K.lookup f=some ⟨oc,od,.func fd,osl⟩∧PySem.W.codeIn K cdv qual=true
  kp:PySem.W.keepIn K (.ref f)=true
section
variable {P:Program} {w:World} {K:PySem.W.Frag} {mg:Str→Option Value} {base:Heap}
theorem Fun.ok {x qual:Str} {st:Stmt} {f:Addr} {fd:FuncData} {N ps:List Str} {k:Nat} {sp:Sp} (F:Fun K x qual st f fd) (S:FnScope N ps (defScope st)) (len:∀ vs H Q E,sp vs H Q E→vs.length=ps.length)
    (hbody:∀ (cdv:Value) (A:Around) (outer:List Env) (s:Shared) (H:Hp) (vs:List V) (Q:VK) (E:XK),Room k (A.deeper (envOfC qual (defScope st) s.heap.objs.size f cdv))→sp vs H Q E →
      ∃ t,PSs (cxOf CX0 P w K mg base N qual (defScope st) f cdv A outer s H E).nox (defBody st) t∧t { nx:=fun _ H'=>Q .non H',rt:=Q } (start N vs) H):FnOk P w K mg base CX0 (k+1) f fd ps sp:=by
  obtain ⟨oc,od,kV,doc,pm,an,cdv,ct,osl,rfl,lk,hcd⟩:=F.ex
  refine fn_of lk hcd S len fun A outer s H vs Q E hr hsp=>?_
  obtain ⟨t,h,q⟩:=hbody cdv A outer s H vs Q E hr hsp
  exact ⟨t,h.nox,q⟩
theorem Fun.binds {x qual:Str} {st:Stmt} {f:Addr} {fd:FuncData} {ps:List Str} (F:Fun K x qual st f fd)
    (h:∀ (kV doc pm:Value) (an:Option Addr) (cdv ct:Value) (us:List Value),us.length=ps.length→bindArgs (PySem.W.fnOf x qual (defArgs st) (defBody st) (defScope st) .none kV doc pm an cdv ct) ⟨us,[]⟩=pure (ps.zip us)):Binds K fd ps []:=by
  obtain ⟨oc,od,kV,doc,pm,an,cdv,ct,osl,rfl,lk,hcd⟩:=F.ex
  exact .all (h kV doc pm an cdv ct)
theorem fun_mk {x qual:Str} {st:Stmt} {f:Addr} {oc:Value} {od an:Option Addr} {osl:Array (Option Value)} {kV doc pm cdv ct:Value} (l:K.lookup f=some ⟨oc,od,.func (PySem.W.fnOf x qual (defArgs st) (defBody st) (defScope st) .none kV doc pm an cdv ct),osl⟩)
    (c:PySem.W.codeIn K cdv qual=true) (k:PySem.W.keepIn K (.ref f)=true):Fun K x qual st f (PySem.W.fnOf x qual (defArgs st) (defBody st) (defScope st) .none kV doc pm an cdv ct):=⟨⟨oc,od,kV,doc,pm,an,cdv,ct,osl,rfl,l,c⟩,k⟩
end
theorem hu_of {A:Around} {k:Nat} (hr:Room k A):A.units+1<cLine:=Nat.lt_of_le_of_lt (Nat.add_le_add_left (by decide:1≤64) _) hr.units
section
variable {X:Cx}
theorem pv (i:Nat) {x:Str} {pos:Pos} (hN:X.N[i]?=some x:=by rfl) (hv:Vis X.env.scope x:=by first | exact Or.inl rfl | exact Or.inr (Or.inl rfl) | exact Or.inr (Or.inr rfl)) (hd:(x==("__debug__" : Str))=false:=by decide)
    (hcd:(x==("__classdict__" : Str))=false:=by decide):PE X (.Name x pos) (tVar i):=pe_var hN hv hd hcd
end
theorem iteF {A B:Prop} (h:B):if false=true then A else B:=by
  rw [if_neg Bool.false_ne_true]
  exact h
theorem iteT {A B:Prop} (h:A):if true=true then A else B:=by
  rw [if_pos rfl]
  exact h
theorem ite2 {c A B:Prop} [Decidable c] (h1:c→A) (h2:¬ c→B):if c then A else B:=by
  by_cases h:c
  · rw [if_pos h]
    exact h1 h
  · rw [if_neg h]
    exact h2 h
def Same (H H':Hp):Prop:=∀ b o,H b=some o→H' b=some o
theorem Same.refl (H:Hp):Same H H:=fun _ _ h=>h
theorem Same.trans {H H1 H2:Hp} (a:Same H H1) (b:Same H1 H2):Same H H2:=fun c o h=>b c o (a c o h)
theorem Same.free {H H':Hp} (e:Same H H') {l:Addr} (h:H' l=Option.none):H l=Option.none:=by
  cases q:H l with
  | none=>rfl
  | some o =>
    rw [e l o q] at h
    cases h
end L2
namespace L2
open PySem PySem.Spec PyProof.Rows
section
variable {X:Cx}
end
section
variable {κ:Type} [DecidableEq κ]
theorem valV_in {kvs:List (κ×V)} {k:κ} {v:V} (h:valV kvs k=some v):k∈kvs.map (·.1):=by
  have q:(kvs.any fun kv=>decide (kv.1=k))=true:=by
    rw [valV_any,h]
    all_goals rfl
  obtain ⟨p,hp,e⟩:=List.any_eq_true.mp q
  exact List.mem_map.mpr ⟨p,hp,of_decide_eq_true e⟩
end
end L2
end
section
namespace L3
open PySem PySem.Spec PyProof.Rows L2
def closedC (env:Env):List (Str×NameKind)→List (Str×Addr)→List (Str×Addr)
  | [],cs=>cs
  | (n,k)::r,cs=>closedC env r (if (k==.free)=true then (n,(env.cells.lookup n).getD 0)::cs else cs)
theorem closedC_eq {env:Env} {scope:Scope} (h:∀ x∈scope.names,x.2=.free→∃ c,env.cells.lookup x.1=some c):closureFor scope env=pure (closedC env scope.names []):=by
  unfold closureFor
  have go:∀ (l:List (Str×NameKind)) (cs:List (Str×Addr)),(∀ x∈l,x.2=.free→∃ c,env.cells.lookup x.1=some c) →
      (forIn l cs fun (x:Str×NameKind) (r:List (Str×Addr))=>if (x.2==.free)=true then (do let a ← cellOf env x.1; pure (ForInStep.yield ((x.1,a)::r))) else pure (ForInStep.yield r):Sem (List (Str×Addr)))=pure (closedC env l cs):=by
    intro l
    induction l with
    | nil=>intro cs _; rfl
    | cons x l ih =>
      intro cs hl
      obtain ⟨n,k⟩:=x
      have hr:∀ y∈l,y.2=.free→∃ c,env.cells.lookup y.1=some c:=fun y hy=>hl y (List.mem_cons_of_mem _ hy)
      rw [List.forIn_cons,closedC]
      by_cases hk:(k==NameKind.free)=true
      · obtain ⟨c,hc⟩:=hl (n,k) List.mem_cons_self (by simpa using hk)
        have hc:env.cells.lookup n=some c:=hc
        have e:cellOf env n=pure c:=by unfold cellOf; rw [hc]
        simp only [hk,if_true,e,pure_bind,hc,Option.getD_some]
        exact ih _ hr
      · simp only [hk,if_false,pure_bind]
        exact ih _ hr
  have q:=go scope.names [] h
  simp only [bind_pure]
  exact q
theorem closedC_keep {env:Env} {x:Str}:∀ (l:List (Str×NameKind)) (cs:List (Str×Addr)),(∃ c,cs.lookup x=some c)→∃ c,(closedC env l cs).lookup x=some c
  | [],_,h=>h
  | (n,k)::r,cs,h=>by
    rw [closedC]
    refine closedC_keep r _ ?_
    by_cases hk:(k==NameKind.free)=true
    · rw [if_pos hk,List.lookup_cons]
      cases x==n with
      | true=>exact ⟨_,rfl⟩
      | false=>exact h
    · rw [if_neg hk]; exact h
theorem closedC_has {env:Env} {x:Str}:∀ (l:List (Str×NameKind)) (cs:List (Str×Addr)),(x,NameKind.free)∈l→∃ c,(closedC env l cs).lookup x=some c
  | [],_,h=>by cases h
  | (n,k)::r,cs,h=>by
    rw [closedC]
    rcases List.mem_cons.mp h with e | h
    · cases e
      refine closedC_keep r _ ?_
      rw [if_pos (by decide),List.lookup_cons,beq_self_eq_true]
      exact ⟨_,rfl⟩
    · exact closedC_has r _ h
theorem closedC_sound {env : Env} : ∀ (l : List (Str × NameKind)) (cs : List (Str × Addr)), (∀ x ∈ l, x.2 = .free → ∃ c, env.cells.lookup x.1 = some c) → (∀ x c, cs.lookup x = some c → env.cells.lookup x = some c) →
    ∀ x c,(closedC env l cs).lookup x=some c→env.cells.lookup x=some c
  | [],_,_,h=>h
  | (n, k) :: r, cs, hl, h => by
    rw [closedC]
    refine closedC_sound r _ (fun y hy=>hl y (List.mem_cons_of_mem _ hy)) fun x c e=>?_
    by_cases hk:(k==NameKind.free)=true
    · rw [if_pos hk,List.lookup_cons] at e
      cases hx:x==n with
      | true =>
        rw [hx] at e
        obtain rfl:x=n:=by simpa using hx
        obtain ⟨c',hc'⟩:=hl (x,k) List.mem_cons_self (by simpa using hk)
        have hc':env.cells.lookup x=some c':=hc'
        rw [hc'] at e ⊢
        exact e
      | false =>
        rw [hx] at e
        exact h x c e
    · rw [if_neg hk] at e
      exact h x c e
theorem relabel_free {env:Env}:∀ {l:List (Str×NameKind)} {x:Str},l.lookup x=some .free →
    (l.map fun (p:Str×NameKind)=>if (p.2==NameKind.free && env.scope.kind==.function && env.kindOf p.1==some .cell) then (p.1,NameKind.cell) else (p.1,p.2)).lookup x=some .cell ∨
    (l.map fun (p:Str×NameKind)=>if (p.2==NameKind.free && env.scope.kind==.function && env.kindOf p.1==some .cell) then (p.1,NameKind.cell) else (p.1,p.2)).lookup x=some .free
  | [],_,h=>by simp at h
  | (n,k)::r,x,h=>by
    have ih:=@relabel_free env r x
    rw [List.lookup_cons] at h
    rw [List.map_cons]
    by_cases hc:(k==NameKind.free && env.scope.kind==.function && env.kindOf n==some .cell)=true
    · simp only [hc,if_true]
      rw [List.lookup_cons]
      cases hx:x==n with
      | true=>exact .inl rfl
      | false=>rw [hx] at h; exact ih h
    · simp only [hc,Bool.false_eq_true,if_false]
      rw [List.lookup_cons]
      cases hx:x==n with
      | true=>rw [hx] at h; exact .inr h
      | false=>rw [hx] at h; exact ih h
theorem of_relabel {env:Env}:∀ {l:List (Str×NameKind)} {x:Str},(∀ y∈l,y.2≠.cell) →
    ((l.map fun (p:Str×NameKind)=>if (p.2==NameKind.free && env.scope.kind==.function && env.kindOf p.1==some .cell) then (p.1,NameKind.cell) else (p.1,p.2)).lookup x=some .cell ∨
    (l.map fun (p:Str×NameKind)=>if (p.2==NameKind.free && env.scope.kind==.function && env.kindOf p.1==some .cell) then (p.1,NameKind.cell) else (p.1,p.2)).lookup x=some .free)→(x,NameKind.free)∈l
  | [],_,_,h=>by simp at h
  | (n, k) :: r, x, hl, h => by
    have ih:=@of_relabel env r x fun y hy=>hl y (List.mem_cons_of_mem _ hy)
    rw [List.map_cons] at h
    by_cases hc:(k==NameKind.free && env.scope.kind==.function && env.kindOf n==some .cell)=true
    · simp only [hc,if_true] at h
      rw [List.lookup_cons] at h
      cases hx:x==n with
      | true =>
        obtain rfl:x=n:=by simpa using hx
        have:k=.free:=by simp only [Bool.and_eq_true] at hc; simpa using hc.1.1
        rw [this]
        exact List.mem_cons_self
      | false=>rw [hx] at h; exact List.mem_cons_of_mem _ (ih h)
    · simp only [hc,Bool.false_eq_true,if_false] at h
      rw [List.lookup_cons] at h
      cases hx:x==n with
      | true =>
        rw [hx] at h
        obtain rfl:x=n:=by simpa using hx
        rcases h with h | h
        · exact absurd (Option.some.inj h) (hl (x,k) List.mem_cons_self)
        · have:k=.free:=Option.some.inj h
          rw [this]
          exact List.mem_cons_self
      | false=>rw [hx] at h; exact List.mem_cons_of_mem _ (ih h)
abbrev blkEnv (X:Cx) (scope:Scope) (C:Addr):Env:=compEnvC scope (closedC X.env scope.names []) C X.env
abbrev blkCx (X:Cx) (N':List Str) (scope:Scope) (s3:Shared) (H3:Hp) (fp:List Addr):Cx :=
  { X with N:=N',s₀:=s3,H₀:=H3,env:=blkEnv X scope s3.heap.objs.size,outer:=X.stack,stack:=X.stack,ex:=fp,fn:=fun _=>false,pn:=X.pn,xe:=fun _ _=>False }
def blkSt (own:Nat) (fr:List Nat) (σ:L2.St):L2.St:=List.replicate own none++fr.map fun i=>(σ[i]?).join
structure BlkScope (X:Cx) (N':List Str) (own:Nat) (fr:List Nat) (scope:Scope):Prop where
  kind:scope.kind=.function
  nocell:∀ y∈scope.names,y.2≠.cell
  loc:∀ x∈scope.names,x.2=.local→scope.names.lookup x.1=some .local
  free:∀ x∈scope.names,x.2=.free→X.env.kindOf x.1=some .cell∨X.env.kindOf x.1=some .free
  len:N'.length=own+fr.length
  fr:∀ j i,fr[j]?=some i→∃ x,N'[own+j]?=some x∧X.N[i]?=some x∧scope.names.lookup x=some .free
theorem un_sameBut {fs ex:List Addr} {H H':Hp} {h h1 h2:Heap} {C:Addr} (u:Un fs ex H H' h h1) (hC:h.objs.size≤C) (hs:Heap.SameBut C h1 h2):Un fs ex H H' h h2:=by
  have ne:∀ b o,h.get? b=some o→b≠C:=fun b o e=>Nat.ne_of_lt (Nat.lt_of_lt_of_le (Heap.lt_size e) hC)
  refine ⟨fun b o e n hb hx=>(hs.2 b (ne b o e)).trans (u.keep b o e n hb hx),fun b o e n hb hx=>?_,u.free,fun b o e hx=>?_,u.tups,u.frzs,u.tbls⟩
  · obtain ⟨sl,q⟩:=u.slot b o e n hb hx
    exact ⟨sl,(hs.2 b (ne b o e)).trans q⟩
  · obtain ⟨o',q⟩:=u.there b o e hx
    exact ⟨o',(hs.2 b (ne b o e)).trans q⟩
theorem hok_sameBut {P:Program} {w:World} {H:Hp} {h h2:Heap} {C:Addr} (k:HOk P w H h) (hC:H C=none) (hs:Heap.SameBut C h h2):HOk P w H h2:=fun b ob e=>by
  refine (k b ob e).stay (fun c w' hc q=>(hs.2 c ?_).trans q) (fun _ q=>q) fun _ _ q=>q
  rintro rfl
  rcases hc with rfl | hc
  · rw [hC] at e; cases e
  · rw [hC] at hc; cases hc
def PIf (Y : Cx) (ifs : List Expr) (tt : TT) : Prop :=
  ∀ (pins:List (Addr×Obj)) (s:Shared) (σ:L2.St) (H:Hp) (Q:Bool→Hp→Prop),Inv Y pins σ H s→tt σ H Q →
    wpAny (model Y.prog Y.w) Y.A (forIn ifs true fun c r=>if r=true then do let ok ← isTrue c Y.env (eval c Y.env); pure (ForInStep.yield ok) else pure (ForInStep.yield r)) (TP Y pins σ Q) Y.xe s
def tYes:TT:=fun _ H Q=>Q true H
theorem pif_nil {Y:Cx}:PIf Y [] tYes:=fun _ _ _ H _ I h=>wpAny_tests_nil ⟨H,I,h⟩
theorem pif_one {Y:Cx} {c:Expr} {t:TT} (h:PT Y c t):PIf Y [c] t:=fun pins s σ H Q I hq=>wpAny_tests_one (h pins s σ H Q I hq)
section
variable {prog:Program} {w:World} {A:Around} {R:Result→Shared→Prop} {s:Shared}
theorem compLoop_go {elt target iter:Expr} {ifs:List Expr} {scope:Scope} {pos:Pos} {it acc:Value} {env:Env} (J:Nat→Shared→Prop)
    (turn : ∀ n s, J n s → wpAny (model prog w) A (pyNext it) (fun r s₁ => match r with
      | none=>R (.ok .next) s₁
      | some v=>wpAny (model prog w) A (letOwnedTupleGo target it v) (fun _ s₀=>wpAny (model prog w) A (assign target env v) (fun _ s₂ =>
          wpAny (model prog w) A (forIn ifs true fun c r=>if r=true then do let ok ← isTrue c env (eval c env); pure (ForInStep.yield ok) else pure (ForInStep.yield r)) (fun ok s₃ =>
            if ok=true then wpAny (model prog w) A (eval elt env) (fun x s₄ =>
              wpAny (model prog w) A (call (.builtin "list.append") [acc,x]) (fun _ s₅=>∃ m,m<n∧J m s₅) (fun _ _=>False) s₄) (fun _ _=>False) s₃
            else ∃ m,m<n∧J m s₃) (fun _ _=>False) s₂) (fun _ _=>False) s₀) (fun _ _=>False) s₁) (fun _ _=>False) s)
    (n:Nat) (h:J n s) :
    codeAny (model prog w) A (.compLoop (.ListComp elt [⟨target,iter,ifs,0⟩] scope pos) 0 it acc env) R s:=by
  refine codeAny_loop rfl J (fun n s hJ=>?_) n h
  show wpAny _ A ((compTurn (.ListComp elt [⟨target,iter,ifs,0⟩] scope pos) 0 it acc env).onRaise (fun x=>do noteFrame x env; theTreesLotGoes x)) _ _ s
  refine wpAny_noted ?_
  rw [compTurn_list]
  have no:∀ {α:Type} {m:Sem α} {Q:α→Shared→Prop} {E':Value→Shared→Prop} {s':Shared},wpAny (model prog w) A m Q (fun _ _=>False) s'→wpAny (model prog w) A m Q E' s':=fun hm=>wpAny_mono hm (fun _ _ q=>q) fun _ _ f=>f.elim
  refine wpAny_bind (wpAny_standAt (wpAny_bind (no (wpAny_mono (turn n s hJ) (fun r s₁ h₁=>?_) fun _ _ h'=>h'))))
  cases r with
  | none=>exact wpAny_pure h₁
  | some v =>
    refine wpAny_bind (no (wpAny_mono h₁ (fun _ s₀ h₀=>wpAny_bind (no (wpAny_mono h₀ (fun _ s₂ h₂=>wpAny_bind (no (wpAny_mono h₂ (fun ok s₃ h₃=>?_) fun _ _ h'=>h'))) fun _ _ h'=>h'))) fun _ _ h'=>h'))
    cases ok with
    | false=>exact wpAny_pure ⟨rfl,h₃⟩
    | true =>
      exact wpAny_bind (wpAny_bind (no (wpAny_mono h₃ (fun x s₄ h₄=>wpAny_bind (no (wpAny_mono h₄ (fun _ s₅ h₅=>wpAny_pure (wpAny_pure ⟨rfl,h₅⟩)) fun _ _ h'=>h'))) fun _ _ h'=>h')))
end
def Own (own:Nat) (g:TG):Prop:=∀ v σ H Q,g v σ H Q→g v σ H fun σ4 H4=>Q σ4 H4∧σ4.length=σ.length∧∀ i,own≤i→σ4[i]?=σ[i]?
theorem own_name {own i:Nat} (h:i<own):Own own (gName i):=fun v σ H Q q=>⟨q,by simp,fun j hj=>List.getElem?_set_ne (by omega)⟩
theorem own_pair {own i j n:Nat} {K:PySem.W.Frag} (hi:i<own) (hj:j<own):Own own (gTup K n (gCons (gName i) (gCons (gName j) gNil))):=by
  intro v σ H Q q
  obtain ⟨a,xs,e1,e2,e3,x,r,e4,y,r',e5,e6,q⟩:=q
  refine ⟨a,xs,e1,e2,e3,x,r,e4,y,r',e5,e6,q,by simp,fun k hk=>?_⟩
  rw [List.getElem?_set_ne (by omega),List.getElem?_set_ne (by omega)]
def tComp (own : Nat) (fr : List Nat) (wi : TI) (g : TG) (tt : TT) (te : TE) : TE := fun σ H Q => wi σ H fun J H1 => ∀ p, H1 p = none → ∃ W : Nat → Nat → List V → Hp → Prop,
  (∃ m,W 0 m [] (upd H1 p (.lst [])))∧∀ i m acc H2,W i m acc H2→(J.stop i H2∧Q (.ref p) H2)∨(J.go i H2∧∀ x H3,J.yld i H2 x H3→g x (blkSt own fr σ) H3 fun σ4 H4=>tt σ4 H4 fun ok H5 =>
    if ok=true then te σ4 H5 fun v H6=>H6 p=some (.lst acc)∧acc.length<sizeLine∧∃ m',m'<m∧W (i+1) m' (acc++[v]) (upd H6 p (.lst (acc++[v])))
    else ∃ m',m'<m∧W (i+1) m' acc H5)
theorem blk_inv {X:Cx} {scope:Scope} {N':List Str} {own:Nat} {fr:List Nat} {pins:List (Addr×Obj)} {σ:L2.St} {H3:Hp} {s3:Shared} {h4:Heap} {fp:List Addr} {t4:Nat} {m:Str→Option Value} (S:BlkScope X N' own fr scope)
    (I3:Inv X pins σ H3 s3) (hfp:∀ b∈fp,FpOk X pins H3 b∧b<s3.heap.objs.size) (keep:∀ b o,s3.heap.get? b=some o→h4.get? b=some o) (hns:h4.Ns s3.heap.objs.size m) :
    Inv (blkCx X N' scope s3 H3 fp) [] (blkSt own fr σ) H3 { s3 with heap:=h4,toks:=t4 }:=by
  have hcs:∀ x∈scope.names,x.2=.free→∃ c,X.env.cells.lookup x.1=some c:=fun x hx e=>I3.ok.has x.1 (S.free x hx e)
  have snd:∀ x c,(closedC X.env scope.names []).lookup x=some c→X.env.cells.lookup x=some c:=closedC_sound _ _ hcs fun x c e=>by simp at e
  have ok:(blkCx X N' scope s3 H3 fp).Ok:=by
    refine ⟨I3.ok.mod,S.kind,I3.ok.glob,I3.ok.blt,Nat.le_refl _,fun x y c e1 e2=>I3.ok.inj x y c (snd x c e1) (snd y c e2),fun x hx=>closedC_has _ _ (of_relabel S.nocell hx),fun x c z=>(by cases z),I3.ok.hd,I3.ok.frames,.inl rfl,
      fun b hb=>⟨Nat.ne_of_lt (hfp b hb).2,fun x c e=>(hfp b hb).1.2.2.2.2.1 x c (snd x c e)⟩,I3.bs,Nat.le_trans I3.ok.bsz I3.sz,fun b o e hb=>?_,fun b hb hz=>?_,I3.stack,I3.stkFree⟩
    · rcases (hfp b hb).1.2.2.2.1 with z | z
      · exact I3.ok.noex b o e z
      · exact absurd (Nat.lt_of_lt_of_le (Heap.lt_size e) I3.ok.bsz) (Nat.not_lt.mpr z)
    · rcases List.mem_cons.mp (I3.stkSub b hz) with z | z
      · exact (hfp b hb).1.2.1 z
      · exact (hfp b hb).1.2.2.1 z
  refine ⟨ok,rfl,I3.bare,Un.kept keep,⟨m,hns,fun i x v h1 h2 h3=>?_⟩,fun x c e=>?_,I3.hok.fresh (Nat.le_refl _),fun x c e=>I3.freeC x c (snd x c e),fun p hp=>?_,I3.hok.kept keep,?_⟩
  · have h1:N'[i]?=some x:=h1
    have hi:¬ i<own:=fun z=>by
      unfold blkSt at h2
      rw [List.getElem?_append_left (by simpa using z),List.getElem?_replicate] at h2
      split at h2 <;> cases h2
    obtain ⟨j,rfl⟩:∃ j,i=own+j:=⟨i-own,by omega⟩
    unfold blkSt at h2
    rw [List.getElem?_append_right (by simp),List.length_replicate,Nat.add_sub_cancel_left,List.getElem?_map] at h2
    cases ek:fr[j]? with
    | none=>rw [ek] at h2; cases h2
    | some k =>
      rw [ek] at h2
      have h2:(σ[k]?).join=some v:=Option.some.inj h2
      have hσ:σ[k]?=some (some v):=by
        cases q:σ[k]? with
        | none=>rw [q] at h2; cases h2
        | some w'=>rw [q] at h2; exact congrArg some h2
      obtain ⟨x',e1,e2,e3⟩:=S.fr j k ek
      rw [h1] at e1
      cases e1
      have mem:=PySem.mem_of_lookup e3
      have hk:=S.free _ mem rfl
      obtain ⟨m3,hn3,hl3⟩:=I3.loc
      obtain ⟨u,r,look⟩:=hl3 k x v e2 hσ (.inr hk)
      rcases look with ⟨q,_⟩ | ⟨q,c,hc,o,ho,hd⟩
      · rcases hk with z | z
        · have z:X.env.kindOf x=some .cell:=z
          rw [z] at q; cases q
        · have z:X.env.kindOf x=some .free:=z
          rw [z] at q; cases q
      · obtain ⟨c',e'⟩:=closedC_has (env:=X.env) scope.names [] mem
        have e'':=snd x c' e'
        rw [hc] at e''
        cases e''
        exact ⟨u,r,.inr ⟨relabel_free e3,c,e',o,keep _ _ ho,hd⟩⟩
  · obtain ⟨v,o,ho,hd⟩:=I3.cell x c (snd x c e)
    exact ⟨v,o,keep _ _ ho,hd⟩
  · obtain ⟨q1,q2,q3,q4,q5⟩:=I3.pin p (List.mem_append_left _ (by simpa using hp))
    refine ⟨keep _ _ q1,q2,Nat.ne_of_lt (Heap.lt_size q1),fun z=>?_,q5⟩
    rcases List.mem_cons.mp (I3.stkSub _ z) with z | z
    · exact q3 z
    · exact q4 z
  · show (blkSt own fr σ).length=N'.length
    unfold blkSt
    rw [S.len,List.length_append,List.length_replicate,List.length_map]
theorem pe_comp {X:Cx} {tg iter elt:Expr} {ifs:List Expr} {scope:Scope} {pos:Pos} {wi:TI} {g:TG} {tt:TT} {te:TE} {N':List Str} {own:Nat} {fr:List Nat} (hc:X.calm=true)
    (S:BlkScope X N' own fr scope) (hi:PI X tg iter wi) (ho:Own own g) (hg:∀ s3 H3 fp,PG (blkCx X N' scope s3 H3 fp) tg g) (hf:∀ s3 H3 fp,PIf (blkCx X N' scope s3 H3 fp) ifs tt) (he:∀ s3 H3 fp,PE (blkCx X N' scope s3 H3 fp) elt te)
    (hs:∀ x,foldedSetIterable iter X.env x=pure x:=by intro _; rfl):PE X (.ListComp elt [⟨tg,iter,ifs,0⟩] scope pos) (tComp own fr wi g tt te):=by
  intro pins s σ H Q I h
  have hcs:∀ x∈scope.names,x.2=.free→∃ c,X.env.cells.lookup x.1=some c:=fun x hx e=>I.ok.has x.1 (S.free x hx e)
  rw [eval_ListComp]
  refine wpAny_comprehension_free (use:=none) rfl hs (closedC_eq hcs) S.kind S.loc ?_
  refine thn (hi pins s σ H _ I h) fun v s1 h1=>thn h1 fun itv s2 h2=>?_
  obtain ⟨it,fp,tn,J,H2,e,I2,T,st2,f2,h2⟩:=h2
  subst e
  refine wpAny_newObj_type (hd:=by size_fits) (wpAny_newFunctionEnv S.nocell (by intro y hy; simp at hy) (fun h4 hns hsb=>?_) S.kind)
  have hp0:=I2.hok.fresh (Nat.le_refl s2.heap.objs.size)
  obtain ⟨W,⟨m0,w0⟩,turn⟩:=h2 _ hp0
  have I3:Inv X pins σ (upd H2 s2.heap.objs.size (.lst [])) { s2 with heap:=s2.heap.push { cls:=.type "list",dict:=none,data:=.seq ([]:List Value).toArray },toks:=s2.toks }:=I2.lnew .nil (Nat.zero_le _)
  have lt2:∀ b∈fp,b<s2.heap.objs.size:=fun b hb=>let ⟨o,e,_⟩:=T.obj _ _ st2 b hb; Heap.lt_size e
  have up2:∀ b o,s2.heap.get? b=some o→∀ ob:Obj,(s2.heap.push ob).get? b=some o:=fun b o e ob=>Heap.get?_push_of_some _ e
  have sz3:(s2.heap.push { cls:=.type "list",dict:=none,data:=.seq ([]:List Value).toArray }).objs.size=s2.heap.objs.size+1:=Heap.size_push ..
  revert hns hsb I3
  generalize e3:s2.heap.push { cls:=.type "list",dict:=none,data:=.seq ([]:List Value).toArray }=h3 at sz3 ⊢
  intro hns hsb I3
  have keep:∀ b o,h3.get? b=some o→h4.get? b=some o:=fun b o e=>(hsb.2 b (Nat.ne_of_lt (Heap.lt_size e))).trans (Heap.get?_push_of_some _ e)
  have fp3:∀ b∈fp,FpOk X pins (upd H2 s2.heap.objs.size (.lst [])) b∧b<h3.objs.size:=fun b hb=>by
    refine ⟨⟨?_,(f2 b hb).2⟩,by rw [sz3]; exact Nat.lt_succ_of_lt (lt2 b hb)⟩
    rw [upd_ne (Nat.ne_of_lt (lt2 b hb))]
    exact (f2 b hb).1
  have I4:=blk_inv (t4:=s2.toks+([]:List (Str×Value)).length) S I3 fp3 keep hns
  have tn4:tn 0 h4:=T.keep _ _ _ st2 fun b hb o e=>keep b o (by rw [← e3]; exact up2 b o e _)
  have stat:∀ {H':Hp},(∀ b∈fp,H' b=none)→∀ b∈fp,FpOk (blkCx X N' scope { s2 with heap:=h3,toks:=s2.toks } (upd H2 s2.heap.objs.size (.lst [])) fp) [] H' b:=fun {H'} hn b hb =>
    ⟨hn b hb,Nat.ne_of_lt (fp3 b hb).2,fun z=>I4.ok.exfs b hb z,.inl hb,(I4.ok.exf b hb).2,fun p hp=>(f2 b hb).2.2.2.2.2 p (List.mem_append_left _ (by simpa using hp))⟩
  have loop:∀ sx:Shared,Inv (blkCx X N' scope { s2 with heap:=h3,toks:=s2.toks } (upd H2 s2.heap.objs.size (.lst [])) fp) [] (blkSt own fr σ) (upd H2 s2.heap.objs.size (.lst [])) sx→tn 0 sx.heap →
      codeAny (model X.prog X.w) X.A (.compLoop (.ListComp elt [⟨tg,iter,ifs,0⟩] scope pos) 0 (.ref it) (.ref s2.heap.objs.size) (blkEnv X scope h3.objs.size)) (compPost (model X.prog X.w) X.A X.xe none (EP X pins σ Q) (.ref s2.heap.objs.size) h3.objs.size) sx:=by
    intro sx Ix tx
    refine compLoop_go (fun n s'=>∃ i acc H',Inv (blkCx X N' scope { s2 with heap:=h3,toks:=s2.toks } (upd H2 s2.heap.objs.size (.lst [])) fp) [] (blkSt own fr σ) H' s'∧tn i s'.heap∧(∀ b∈fp,H' b=none)∧W i n acc H') ?_ m0 ⟨0,[],_,Ix,tx,fun b hb=>(fp3 b hb).1.1,w0⟩
    rintro n s5 ⟨i,acc,H5,I5,st5,fr5,w5⟩
    rcases turn i n acc H5 w5 with ⟨stop,qn⟩ | ⟨go,step⟩
    · refine thn (T.done (blkCx X N' scope { s2 with heap:=h3,toks:=s2.toks } (upd H2 s2.heap.objs.size (.lst [])) fp) rfl rfl rfl hc i [] s5 _ H5 (fun _ _=>False) I5 (stat fr5) st5 stop) fun r s6 ⟨hr,I6⟩=>?_
      subst hr
      obtain ⟨m6,hm6,_⟩:=id I6.loc
      refine ⟨m6,hm6,fun h7 hs7=>⟨.ref s2.heap.objs.size,H5,?_,rfl,qn⟩⟩
      exact I3.call' (s':={ s6 with heap:=h7 }) (ch:=fp) I6.os (un_sameBut I6.base (Nat.le_refl _) hs7) (hok_sameBut I6.hok I6.free hs7) I6.bare fun b hb=>⟨(f2 b hb).2.2.2.1,(f2 b hb).2.1,(f2 b hb).2.2.2.2.1,(f2 b hb).2.2.2.2.2⟩
    · refine thn (T.item (blkCx X N' scope { s2 with heap:=h3,toks:=s2.toks } (upd H2 s2.heap.objs.size (.lst [])) fp) rfl rfl rfl hc i [] s5 _ H5 (fun _ _=>False) I5 (stat fr5) st5 go) fun r s6 ⟨u,hr,h6⟩=>?_
      subst hr
      refine thn h6 fun _ s7 ⟨x,H7,I7,r7,y7,st7,fr7⟩=>?_
      have I7':=I7.pinned (stat fr7) (T.obj _ _ st7)
      refine thn (hg _ _ _ _ s7 _ H7 x u _ I7' r7 (ho _ _ _ _ (step x H7 y7))) fun _ s8 ⟨σ8,H8,I8,q8,l8,k8⟩=>?_
      have again:∀ {H9:Hp} {s9:Shared},Inv (blkCx X N' scope { s2 with heap:=h3,toks:=s2.toks } (upd H2 s2.heap.objs.size (.lst [])) fp) ([]++pinsAt fp s7.heap) σ8 H9 s9 →
          Inv (blkCx X N' scope { s2 with heap:=h3,toks:=s2.toks } (upd H2 s2.heap.objs.size (.lst [])) fp) [] (blkSt own fr σ) H9 s9∧tn (i+1) s9.heap∧∀ b∈fp,H9 b=none:=fun {H9 s9} I9=>by
        refine ⟨I9.unpinned.weak l8.symm fun j v e=>?_,T.keep _ _ _ st7 fun b hb o e=>(I9.pin (b,o) (List.mem_append_right _ (List.mem_append_right _ (mem_pinsAt hb e)))).1,fun b hb=>?_⟩
        · have hj:own≤j:=by
            refine Nat.le_of_not_lt fun z=>?_
            unfold blkSt at e
            rw [List.getElem?_append_left (by simpa using z),List.getElem?_replicate] at e
            split at e <;> cases e
          rw [k8 j hj]
          exact e
        · obtain ⟨o,e,_⟩:=T.obj _ _ st7 b hb
          exact (I9.pin (b,o) (List.mem_append_right _ (List.mem_append_right _ (mem_pinsAt hb e)))).2.1
      refine thn (hf _ _ _ _ s8 σ8 H8 _ I8 q8) fun ok s9 ⟨H9,I9,q9⟩=>?_
      cases ok with
      | false =>
        obtain ⟨m',hm',w9⟩:=q9
        obtain ⟨a1,a2,a3⟩:=again I9
        exact ⟨m',hm',i+1,acc,H9,a1,a2,a3,w9⟩
      | true =>
        refine thn (he _ _ _ _ s9 σ8 H9 _ I9 q9) fun y s10 ⟨v,H10,I10,r10,hD10,hl10,m',hm',w10⟩=>?_
        refine thn (mt_append _ s10 σ8 H10 (.ref s2.heap.objs.size) [v] (.ref s2.heap.objs.size) [y] (fun _ Hn=>Hn=upd H10 s2.heap.objs.size (.lst (acc++[v]))) I10 rfl (.cons r10 .nil) ⟨_,acc,v,rfl,rfl,hD10,hl10,rfl⟩) fun _ s11 ⟨_,H11,I11,_,e11⟩=>?_
        subst e11
        obtain ⟨a1,a2,a3⟩:=again I11
        exact ⟨m',hm',i+1,acc++[v],_,a1,a2,a3,w10⟩
  exact codeAny_compStart_list (loop _ I4 tn4) (wpAny_mono (T.self X.A 0 _ (fun v s'=>v=.ref it∧s'=_) (fun _ _=>False) tn4 ⟨rfl,rfl⟩) (fun v s' ⟨e1,e2⟩=>by subst e1; subst e2; exact loop _ I4 tn4) fun _ _ f=>f.elim)
def Nx (n i:Nat) (P:Prop):Prop:=∃ m',m'<n-i∧m'=n-(i+1)∧i+1≤n∧P
theorem nx {n i:Nat} {P:Prop} (h:i<n) (p:P):Nx n i P:=⟨n-(i+1),by omega,rfl,h,p⟩
theorem comp_by {J:It} {p:Addr} {H1:Hp} {g:TG} {tt:TT} {te:TE} {b:L2.St} {Q:VK} (n:Nat) (Pv:Nat→List V→Hp→Prop) (h0:Pv 0 [] (upd H1 p (.lst [])))
    (hgo:∀ i acc H2,i<n→Pv i acc H2→J.go i H2∧∀ x H3,J.yld i H2 x H3→g x b H3 fun σ4 H4=>tt σ4 H4 fun ok H5 =>
      if ok=true then te σ4 H5 fun v H6=>H6 p=some (.lst acc)∧acc.length<sizeLine∧Nx n i (Pv (i+1) (acc++[v]) (upd H6 p (.lst (acc++[v])))) else Nx n i (Pv (i+1) acc H5))
    (hd:∀ acc H2,Pv n acc H2→J.stop n H2∧Q (.ref p) H2) :
    ∃ W:Nat→Nat→List V→Hp→Prop,(∃ m,W 0 m [] (upd H1 p (.lst [])))∧∀ i m acc H2,W i m acc H2→(J.stop i H2∧Q (.ref p) H2)∨(J.go i H2∧∀ x H3,J.yld i H2 x H3→g x b H3 fun σ4 H4=>tt σ4 H4 fun ok H5 =>
      if ok=true then te σ4 H5 fun v H6=>H6 p=some (.lst acc)∧acc.length<sizeLine∧∃ m',m'<m∧W (i+1) m' (acc++[v]) (upd H6 p (.lst (acc++[v]))) else ∃ m',m'<m∧W (i+1) m' acc H5):=by
  refine ⟨fun i m acc H=>m=n-i∧i≤n∧Pv i acc H,⟨n,by simp,Nat.zero_le _,h0⟩,?_⟩
  rintro i m acc H2 ⟨rfl,hi,w⟩
  by_cases hlt:i<n
  · exact .inr (hgo i acc H2 hlt w)
  · obtain rfl:i=n:=by omega
    exact .inl (hd acc H2 w)
end L3
end
section
namespace L3
open PySem L2
section
variable {prog:Program} {w:World} {A:Around} {E:Value→Shared→Prop} {s:Shared}
end
structure ZApart (z TI TO i1 i2:Nat) (f1 f2:List Nat):Prop where
  TIz:TI≠z
  TOz:TO≠z
  TITO:TI≠TO
  TI1:TI≠i1
  TI2:TI≠i2
  TO1:TO≠i1
  TO2:TO≠i2
  i1z:i1≠z
  i2z:i2≠z
  zf1:z∉f1
  zf2:z∉f2
  Tf1:TO∉f1
  Tf2:TO∉f2
  i2f1:i2∉f1
  i1f2:i1∉f2
section
variable {prog:Program} {w:World} {A:Around} {E:Value→Shared→Prop} {s:Shared}
variable {z TI TO i1 i2:Addr} {f1 f2:List Addr} {n1 n2:Nat} {P1 P2:Nat→Value→Prop} {S1 S2:Nat→Heap→Prop}
theorem zip_stepD {i:Nat} {a b:Value} {Q:Value→Shared→Prop} (D1:Draws prog w A i1 f1 n1 P1 S1) (D2:Draws prog w A i2 f2 n2 P2 S2) (ap:ZApart z TI TO i1 i2 f1 f2)
    (gz:IsZip s.heap z TI TO .none) (gTI:IsPair s.heap TI (.ref i1) (.ref i2)) (gTO:IsPair s.heap TO a b) (s1:S1 i s.heap) (s2:S2 i s.heap) (l1:i<n1) (l2:i<n2)
    (hQ:∀ x y h' tk,P1 i x→P2 i y→IsZip h' z TI TO (rawInt s.heap.objs.size)→IsPair h' TO x y→S1 (i+1) h'→S2 (i+1) h'→IsPair h' s.heap.objs.size x y →
      (∀ c o,c≠z→c≠TO→c≠i1→c≠i2→s.heap.get? c=some o→h'.get? c=some o)→Q (.ref s.heap.objs.size) { s with heap:=h',toks:=tk }) :
    wpAny (model prog w) A (Builtin.«zip.__next__» ⟨[.ref z], []⟩) (fun fin s' => ∃ v, fin = .done (.ret v) ∧ Q v s') E s := by
  have fr1:∀ {k:Nat} {h h':Heap} {c:Addr},c∉f1→Heap.SameBut c h h'→S1 k h→S1 k h':=fun {k h h' c} hc sb st=>D1.frame _ _ _ st fun q hq o e=>(sb.2 q fun z=>hc (z ▸ hq)).trans e
  have fr2:∀ {k:Nat} {h h':Heap} {c:Addr},c∉f2→Heap.SameBut c h h'→S2 k h→S2 k h':=fun {k h h' c} hc sb st=>D2.frame _ _ _ st fun q hq o e=>(sb.2 q fun z=>hc (z ▸ hq)).trans e
  show wpAny (model prog w) _ (field (.ref z) 2 >>= _) _ _ _
  refine wpAny_bind (wpAny_field gz rfl (x:=.bool false) rfl ?_)
  show wpAny (model prog w) _ (field (.ref z) 3 >>= _) _ _ _
  refine wpAny_bind (wpAny_field gz rfl (x:=.ref TI) rfl ?_)
  refine wpAny_bind (wpAny_seqItems gTI rfl ?_)
  show wpAny (model prog w) _ (Builtin.SmallTypes.ownedTupleIsFree (.ref z) >>= _) _ _ _
  refine wpAny_bind ?_
  unfold Builtin.SmallTypes.ownedTupleIsFree
  refine wpAny_bind (wpAny_field gz rfl (x:=.none) rfl (wpAny_pure ?_))
  simp only [if_true]
  refine wpAny_bind (wpAny_rule ?_)
  refine wpAny_bind (wpAny_field gz rfl (x:=.ref TO) rfl ?_)
  refine wpAny_bind (wpAny_setField_rec gz (by simp) fun k1 z1 b1=>?_)
  replace z1:IsZip k1 z TI TO .ellipsis:=z1
  refine wpAny_bind ?_
  simp only [List.zipIdx_cons,List.zipIdx_nil,List.forIn_cons,List.forIn_nil]
  refine wpAny_bind (wpAny_bind (wpAny_onRaise ?_))
  show wpAny (model prog w) _ (Builtin.SmallTypes.nextOf (.ref i1) >>= _) _ _ _
  refine wpAny_bind (D1.item i _ _ _ l1 (fr1 ap.zf1 b1 s1) fun x k2 t2 px q2 b2=>wpAny_pure ?_)
  have o2:IsPair k2 TO a b:=b2.extBut _ _ ap.TO1 (b1.extBut _ _ ap.TOz gTO)
  refine wpAny_bind (wpAny_seqItems o2 rfl ?_)
  refine wpAny_bind (wpAny_updateSeq_pair o2 fun k3 o3 b3=>?_)
  replace o3:IsPair k3 TO x b:=o3
  refine wpAny_bind (wpAny_letGo (wpAny_pure ?_))
  refine wpAny_bind (wpAny_bind (wpAny_onRaise ?_))
  show wpAny (model prog w) _ (Builtin.SmallTypes.nextOf (.ref i2) >>= _) _ _ _
  refine wpAny_bind (D2.item i _ _ _ l2 (fr2 ap.Tf2 b3 (fr2 ap.i1f2 b2 (fr2 ap.zf2 b1 s2))) fun y k4 t4 py q4 b4=>wpAny_pure ?_)
  have o4:IsPair k4 TO x b:=b4.extBut _ _ ap.TO2 o3
  refine wpAny_bind (wpAny_seqItems o4 rfl ?_)
  refine wpAny_bind (wpAny_updateSeq_pair o4 fun k5 o5 b5=>?_)
  replace o5:IsPair k5 TO x y:=o5
  refine wpAny_bind (wpAny_letGo (wpAny_pure (wpAny_pure ?_)))
  refine wpAny_bind (wpAny_seqItems o5 rfl ?_)
  refine wpAny_bind (wpAny_newTuple ?_)
  have sz:k5.objs.size=s.heap.objs.size:=by rw [b5.1,b4.1,b3.1,b2.1,b1.1]
  have z5:IsZip k5 z TI TO .ellipsis:=b5.extBut _ _ ap.TOz.symm (b4.extBut _ _ ap.i2z.symm (b3.extBut _ _ ap.TOz.symm (b2.extBut _ _ ap.i1z.symm z1)))
  have kp:∀ c o,c≠z→c≠TO→c≠i1→c≠i2→s.heap.get? c=some o→k5.get? c=some o:=fun c o c1 c2 c3 c4 e =>
    b5.extBut _ _ c2 (b4.extBut _ _ c4 (b3.extBut _ _ c2 (b2.extBut _ _ c3 (b1.extBut _ _ c1 e))))
  have q1':S1 (i+1) k5:=fr1 ap.Tf1 b5 (fr1 ap.i2f1 b4 (fr1 ap.Tf1 b3 q2))
  have q2':S2 (i+1) k5:=fr2 ap.Tf2 b5 q4
  have lz:z<k5.objs.size:=Heap.lt_size z5
  show wpAny (model prog w) _ (Builtin.SmallTypes.ownedTupleHandOut (.ref z) (.ref k5.objs.size) >>= _) _ _ _
  refine wpAny_bind ?_
  unfold Builtin.SmallTypes.ownedTupleHandOut
  have z6:IsZip (k5.push { cls:=.type "tuple",data:=.seq #[x,y] }) z TI TO .ellipsis:=Heap.get?_push_of_some _ z5
  refine wpAny_bind (wpAny_setField_rec z6 (by simp) fun k7 z7 b7=>?_)
  replace z7:IsZip k7 z TI TO (rawInt k5.objs.size):=z7
  refine wpAny_setField_rec z7 (by simp) fun k8 z8 b8=>?_
  replace z8:IsZip k8 z TI TO (rawInt k5.objs.size):=z8
  have up:∀ c o,c≠z→k5.get? c=some o→k8.get? c=some o:=fun c o c1 e=>b8.extBut _ _ c1 (b7.extBut _ _ c1 (Heap.get?_push_of_some _ e))
  have t8:IsPair k8 k5.objs.size x y:=b8.extBut _ _ (Nat.ne_of_gt lz) (b7.extBut _ _ (Nat.ne_of_gt lz) (Heap.get?_push_size _ rfl))
  rw [sz] at z8 t8
  refine wpAny_pure ⟨_,rfl,?_⟩
  show Q (.ref k5.objs.size) _
  rw [sz]
  exact hQ x y k8 _ px py z8 (up _ _ ap.TOz o5) (D1.frame _ _ _ q1' fun q hq o e=>up q o (fun z=>ap.zf1 (z ▸ hq)) e) (D2.frame _ _ _ q2' fun q hq o e=>up q o (fun z=>ap.zf2 (z ▸ hq)) e) t8 fun c o c1 c2 c3 c4 e=>up c o c1 (kp c o c1 c2 c3 c4 e)
theorem zip_doneD {a b:Value} {Q:Fin→Shared→Prop} (D1:Draws prog w A i1 f1 n1 P1 S1) (ap:ZApart z TI TO i1 i2 f1 f2)
    (gz:IsZip s.heap z TI TO .none) (gTI:IsPair s.heap TI (.ref i1) (.ref i2)) (gTO:IsPair s.heap TO a b) (s1:S1 n1 s.heap)
    (hE:∀ h' e,(∀ c o,c≠z→c≠TO→c≠i1→c≠i2→s.heap.get? c=some o→h'.get? c=some o)→(∃ o,h'.get? e=some o∧o.cls=.type "StopIteration")→E (.ref e) { s with heap:=h' }) :
    wpAny (model prog w) A (Builtin.«zip.__next__» ⟨[.ref z], []⟩) Q E s := by
  show wpAny (model prog w) _ (field (.ref z) 2 >>= _) _ _ _
  refine wpAny_bind (wpAny_field gz rfl (x:=.bool false) rfl ?_)
  show wpAny (model prog w) _ (field (.ref z) 3 >>= _) _ _ _
  refine wpAny_bind (wpAny_field gz rfl (x:=.ref TI) rfl ?_)
  refine wpAny_bind (wpAny_seqItems gTI rfl ?_)
  show wpAny (model prog w) _ (Builtin.SmallTypes.ownedTupleIsFree (.ref z) >>= _) _ _ _
  refine wpAny_bind ?_
  unfold Builtin.SmallTypes.ownedTupleIsFree
  refine wpAny_bind (wpAny_field gz rfl (x:=.none) rfl (wpAny_pure ?_))
  simp only [if_true]
  refine wpAny_bind (wpAny_rule ?_)
  refine wpAny_bind (wpAny_field gz rfl (x:=.ref TO) rfl ?_)
  refine wpAny_bind (wpAny_setField_rec gz (by simp) fun k1 z1 b1=>?_)
  replace z1:IsZip k1 z TI TO .ellipsis:=z1
  refine wpAny_bind ?_
  simp only [List.zipIdx_cons,List.zipIdx_nil,List.forIn_cons,List.forIn_nil]
  refine wpAny_bind (wpAny_bind (wpAny_onRaise ?_))
  show wpAny (model prog w) _ (Builtin.SmallTypes.nextOf (.ref i1) >>= _) _ _ _
  refine wpAny_bind (D1.done _ _ _ (D1.frame _ _ _ s1 fun q hq o e=>(b1.2 q fun y=>ap.zf1 (y ▸ hq)).trans e) fun k2 e b2 he=>?_)
  obtain ⟨oe,ee,ce⟩:=he
  have z2:IsZip k2 z TI TO .ellipsis:=b2 _ _ ap.i1z.symm z1
  have nz:e≠z:=fun q=>by
    subst q
    rw [z2] at ee
    cases ee
    simp at ce
  refine wpAny_setField_rec z2 (by simp) fun k3 _ b3=>hE k3 e (fun c o c1 _ c3 _ q=>b3.extBut _ _ c1 (b2 _ _ c3 (b1.extBut _ _ c1 q))) ⟨oe,b3.extBut _ _ nz ee,ce⟩
theorem zip_nextD {i:Nat} {a b:Value} {Q:Option Value→Shared→Prop} (D1:Draws prog w A.in1 i1 f1 n1 P1 S1) (D2:Draws prog w A.in1 i2 f2 n2 P2 S2) (ap:ZApart z TI TO i1 i2 f1 f2)
    (gz:IsZip s.heap z TI TO .none) (gTI:IsPair s.heap TI (.ref i1) (.ref i2)) (gTO:IsPair s.heap TO a b) (s1:S1 i s.heap) (s2:S2 i s.heap) (l1:i<n1) (l2:i<n2)
    (hQ:∀ x y h' tk,P1 i x→P2 i y→IsZip h' z TI TO (rawInt s.heap.objs.size)→IsPair h' TO x y→S1 (i+1) h'→S2 (i+1) h'→IsPair h' s.heap.objs.size x y →
      (∀ c o,c≠z→c≠TO→c≠i1→c≠i2→s.heap.get? c=some o→h'.get? c=some o)→Q (some (.ref s.heap.objs.size)) { s with heap:=h',toks:=tk }) :
    wpAny (model prog w) A (pyNext (.ref z)) Q E s:=by
  have ty:s.TypeIs (.ref z) "zip" := ⟨_,gz,rfl⟩
  unfold pyNext
  refine wpAny_bind (wpAny_attempt (wpAny_callSpecial?_slot (name:=Str.ofString "__next__") ty F.slot_zip_next (wpAny_call_entry F.slot_zip_next ty F.entry_zip_next ?_ (F.args_zip_next_1 _))))
  exact zip_stepD D1 D2 ap gz gTI gTO s1 s2 l1 l2 fun x y h' tk a1 a2 a3 a4 a5 a6 a7 a8=>wpAny_pure (hQ x y h' tk a1 a2 a3 a4 a5 a6 a7 a8)
theorem zip_stopD {a b:Value} {Q:Option Value→Shared→Prop} (D1:Draws prog w A.in1 i1 f1 n1 P1 S1) (ap:ZApart z TI TO i1 i2 f1 f2)
    (gz:IsZip s.heap z TI TO .none) (gTI:IsPair s.heap TI (.ref i1) (.ref i2)) (gTO:IsPair s.heap TO a b) (s1:S1 n1 s.heap)
    (hQ:∀ h',(∀ c o,c≠z→c≠TO→c≠i1→c≠i2→s.heap.get? c=some o→h'.get? c=some o)→Q none { s with heap:=h' }):wpAny (model prog w) A (pyNext (.ref z)) Q E s:=by
  have ty:s.TypeIs (.ref z) "zip" := ⟨_,gz,rfl⟩
  unfold pyNext
  refine wpAny_bind (wpAny_attempt (wpAny_callSpecial?_slot (name:=Str.ofString "__next__") ty F.slot_zip_next (wpAny_call_entry F.slot_zip_next ty F.entry_zip_next (zip_doneD D1 ap gz gTI gTO s1 fun h' e hk he=>?_) (F.args_zip_next_1 _))))
  obtain ⟨o,ho,hc⟩:=he
  refine wpAny_bind (wpAny_isInstance (T := "StopIteration") (b:=true) ⟨o,ho,hc⟩ isSubtype_stop (wpAny_pure (hQ _ hk)))
end
section
variable {prog:Program} {w:World} {A:Around} {E:Value→Shared→Prop} {s:Shared}
end
end L3
end
section
namespace L3
open PySem PySem.Spec PyProof.Rows L2
section
variable {X:Cx} {pins:List (Addr×Obj)} {σ:L2.St} {H:Hp} {s:Shared} {h':Heap}
theorem turnedNew {t':Nat} {ch:List Addr} {T:Addr} {o:HO} (I:Inv X pins σ H s) (k:∀ b ob,b∉ch→s.heap.get? b=some ob→h'.get? b=some ob) (hf:∀ b∈ch,FpOk X pins H b) (hT:s.heap.objs.size≤T)
    (new:ObjOk X.prog X.w (upd H T o) h' T o):Inv X pins σ (upd H T o) { s with heap:=h',toks:=t' }:=by
  have hn:H T=none:=I.hok.fresh hT
  have nch:∀ b u,H b=some u→b∉ch:=fun b u e z=>by rw [(hf b z).1] at e; cases e
  refine I.step (g':=s.gens) (d':=s.drawn) (ch:=ch) (fun b hb=>⟨(hf b hb).2.2.2.1,(hf b hb).2.1,(hf b hb).2.2.2.2.1,(hf b hb).2.2.2.2.2⟩) (fun b ob _ _ hc e _=>k b ob hc e) (fun b ob _ _ hc e _=>⟨ob.slots,k b ob hc e⟩)
    (fun b ob _ e n=>by rw [upd_ne (Nat.ne_of_lt (Nat.lt_of_lt_of_le (Heap.lt_size e) hT))]; exact n) (fun b ob hc e=>⟨ob,k b ob hc e⟩) (fun b xs e=>by rw [upd_ne (ne_of_none e hn)]; exact e)
    (fun b ob u e=>by rw [upd_ne (ne_of_none e hn)]; exact e) (fun b ps e=>(by rw [upd_ne (ne_of_none e hn),e])) (fun m hm=>?_) (fun b u e=>?_) I.bare
  · obtain ⟨ob,es,ep,ho,r⟩:=hm
    exact ⟨ob,es,ep,k _ ob (fun z=>(hf _ z).2.1 rfl) ho,r⟩
  · by_cases hb:b=T
    · subst hb
      rw [upd_same] at e
      cases e
      exact new
    · rw [upd_ne hb] at e
      refine (I.hok b u e).stay (fun c v hc q=>k c v ?_ q) (fun c q=>by rw [upd_ne (ne_of_none q hn)]; exact q) fun c xs q=>by rw [upd_ne (ne_of_none q hn)]; exact q
      rcases hc with z | z
      · rw [z]; exact nch b u e
      · exact nch c _ z
theorem turnedL {t':Nat} {ch:List Addr} (I:Inv X pins σ H s) (k:∀ b ob,b∉ch→s.heap.get? b=some ob→h'.get? b=some ob) (hf:∀ b∈ch,FpOk X pins H b):Inv X pins σ H { s with heap:=h',toks:=t' }:=by
  have nch:∀ b u,H b=some u→b∉ch:=fun b u e z=>by rw [(hf b z).1] at e; cases e
  refine I.step (g':=s.gens) (d':=s.drawn) (ch:=ch) (fun b hb=>⟨(hf b hb).2.2.2.1,(hf b hb).2.1,(hf b hb).2.2.2.2.1,(hf b hb).2.2.2.2.2⟩) (fun b ob _ _ hc e _=>k b ob hc e) (fun b ob _ _ hc e _=>⟨ob.slots,k b ob hc e⟩)
    (fun b ob _ e n=>n) (fun b ob hc e=>⟨ob,k b ob hc e⟩) (fun b xs e=>e) (fun b ob u e=>e) (fun b ps e=>(by rw [e])) (fun m hm=>?_) (fun b u e=>?_) I.bare
  · obtain ⟨ob,es,ep,ho,r⟩:=hm
    exact ⟨ob,es,ep,k _ ob (fun z=>(hf _ z).2.1 rfl) ho,r⟩
  · refine (I.hok b u e).stay (fun c v hc q=>k c v ?_ q) (fun _ q=>q) fun _ _ q=>q
    rcases hc with z | z
    · rw [z]; exact nch b u e
    · exact nch c _ z
end
structure ZRec (a b z TI TO i1 i2:Addr) (i:Nat) (h:Heap):Prop where
  z:IsZip h z TI TO .none
  TI:IsPair h TI (.ref i1) (.ref i2)
  TO:∃ u v,IsPair h TO u v
  i1:h.IsTupleIter i1 a i
  i2:h.IsTupleIter i2 b i
end L3
end
section
namespace L3
open PySem PySem.Spec PyProof.Rows L2
section
variable {X:Cx}
theorem call_isinst:CallR X (.builtin "isinstance") (fun xs H Q=>∃ x t n b,xs=[x,.ty n]∧TyOf X.K H x t∧PySem.W.kitOne X.K t (.type n)=some b∧Q (.bl b) H):=by
  intro pins s σ H xs us Q I r h
  obtain ⟨x,t,n,b,rfl,ty,e,q⟩:=h
  obtain ⟨u,v,rfl,ru,rv⟩:=r.two
  obtain rfl:v=Value.type n:=rv
  exact isinst_ok I ru ty e fun tk=>⟨.bl b,H,I.tok tk,rfl,q⟩
end
structure TabK (K:PySem.W.Frag) (a:Addr) (D:List (Str×V)):Prop where
  sys:(a==sysModules)=false
  ex:∃ o es ep,K.lookup a=some o∧o.ExactDict∧o.data=.dict es ep∧KTD.Rows RelV es.toList D
section
variable {X:Cx} {pins:List (Addr×Obj)} {σ:L2.St} {H:Hp} {s:Shared} {a:Addr} {D:List (Str×V)} {k:Str} {tk:Tok} {A:Around} {E:Value→Shared→Prop}
theorem TabK.typeIs (T:TabK X.K a D) (I:Inv X pins σ H s):s.TypeIs (.ref a) "dict" := let ⟨o,_,_,e,x,_⟩:=T.ex; ⟨o,I.kIn a o e,x.1⟩
theorem tab_get {Q:Option Value→Shared→Prop} (T:TabK X.K a D) (I:Inv X pins σ H s) (h1:∀ v u,KTD.datumAt k D=some v→RelV v u→Q (some u) { s with toks:=s.toks+1 })
    (h2:KTD.datumAt k D=none→Q none { s with toks:=s.toks+1 }):wpAny (model X.prog X.w) A (dictGet a (.str k tk)) Q E s:=by
  obtain ⟨_,o,es,ep,ek,_,ed,er⟩:=T
  have eo:=I.kIn a o ek
  unfold dictGet
  try with_reducible refine wpAny_holding ?_
  have ea:(es.all fun e=>isExactStrKey e.key)=true:=by
    obtain ⟨l⟩:=es
    simpa using er.exact
  refine wpAny_bind (wpAny_pyHash_str (wpAny_bind (KTD.kt_dictFind_strs (s:={ s with toks:=s.toks+1 }) eo ed ea ?_)))
  have fq:Q (findBy (fun k v=>v.isStr k) es k) { s with toks:=s.toks+1 }:=by
    have ef:findBy (fun k v=>v.isStr k) es k=(es.toList.find? fun e=>e.key.isStr k).map (·.val):=by
      obtain ⟨l⟩:=es
      simp [findBy]
    rw [ef]
    cases hat:KTD.datumAt k D with
    | some d =>
      obtain ⟨v,hv,hr⟩:=er.find_some hat
      rw [hv]
      exact h1 d v hat hr
    | none =>
      rw [er.find_none hat]
      exact h2 hat
  rw [findBy_of_findIdx?] at fq
  cases hi:es.findIdx? fun e=>e.key.isStr k with
  | none=>rw [hi] at fq; exact wpAny_pure fq
  | some i=>rw [hi] at fq; exact wpAny_bind (wpAny_dictEntries (s:={ s with toks:=s.toks+1 }) eo ed (wpAny_pure fq))
theorem tab_item {Q:Value→Shared→Prop} {v:V} (T:TabK X.K a D) (I:Inv X pins σ H s) (hd:KTD.datumAt k D=some v) (h:∀ u,RelV v u→Q u { s with toks:=s.toks+1 }):wpAny (model X.prog X.w) A (getItem (.ref a) (.str k tk)) Q E s:=by
  have ty:=T.typeIs I
  unfold getItem
  try with_reducible refine wpAny_holding ?_
  refine wpAny_bind (wpAny_sequenceKey ty (by decide) ?_)
  refine wpAny_bind (wpAny_callSpecial?_slot (name:=Str.ofString "__getitem__") ty slot_dict_getitem (wpAny_call_entry slot_dict_getitem ty entry_dict_getitem ?_ (args_dict_getitem _ _)))
  show wpAny (model X.prog X.w) _ (dictGet a (.str k tk) >>= _) _ _ s
  refine wpAny_bind (tab_get T I (fun v' u e r=>?_) fun hn=>?_)
  · rw [hd] at e
    cases e
    exact wpAny_pure ⟨u,rfl,wpAny_pure (h u r)⟩
  · rw [hd] at hn
    cases hn
end
section
variable {X:Cx}
def rIxD (K:PySem.W.Frag):R2:=fun x y H Q=>∃ a D k v,x=.ref a∧y=.str k∧TabK K a D∧KTD.datumAt k D=some v∧Q v H
theorem pe_tab {o i:Expr} {pos:Pos} {td ty:TE} (ho:PE X o td) (hi:PE X i ty) (hs:NoSl i):PE X (.Subscript o i pos) (tOp (rIxD X.K) td ty):=by
  intro pins s σ H Q I h
  refine subD_of PySem.F.slot_dict_getitem.lookup hs (thn (ho pins s σ H _ I h) fun u s1 ⟨x,H1,I1,rx,q1⟩=>thn (hi pins s1 σ H1 _ I1 q1) fun iv s2 ⟨y,H2,I2,ry,a,D,k,v,ex,ey,T,e,q2⟩=>?_)
  subst ex ey
  cases rx
  obtain ⟨t,rfl⟩:=ry
  exact ⟨T.typeIs I2,tab_item T I2 e fun u r=>⟨v,H2,I2.tok _,r,q2⟩⟩
end
end L3
end
section
namespace KM
open PySem
inductive D where
  | non
  | bl (b:Bool)
  | int (i:Int)
  | str (x:Str)
  | tup (ds:List D)
deriving Inhabited
mutual
def knots:D→Nat
  | .tup ds=>1+knotsL ds
  | .non=>0
  | .bl _=>0
  | .int _=>0
  | .str _=>0
def knotsL:List D→Nat
  | []=>0
  | d::r=>knots d+knotsL r
end
mutual
def depth:D→Nat
  | .tup ds=>1+depthL ds
  | .non=>0
  | .bl _=>0
  | .int _=>0
  | .str _=>0
def depthL:List D→Nat
  | []=>0
  | d::r=>max (depth d) (depthL r)
end
def isTup:D→Bool
  | .tup _=>true
  | _=>false
def tk:D→List D
  | .tup ds=>ds.filter isTup
  | _=>[]
def lv:Nat→List D→List D
  | 0,l=>l
  | n+1,l=>lv n (l.flatMap tk)
theorem knotsL_filter:∀ l:List D,knotsL (l.filter isTup)=knotsL l
  | []=>rfl
  | d::r=>by
    have ih:=knotsL_filter r
    cases d <;> simp [isTup,List.filter_cons,knotsL,knots,ih]
theorem depthL_filter:∀ l:List D,depthL (l.filter isTup)=depthL l
  | []=>rfl
  | d::r=>by
    have ih:=depthL_filter r
    cases d <;> simp [isTup,List.filter_cons,depthL,depth,ih]
theorem knotsL_app:∀ l r:List D,knotsL (l++r)=knotsL l+knotsL r
  | [],r=>by simp [knotsL]
  | d::l,r=>by simp [knotsL,knotsL_app l r]; omega
theorem depthL_app:∀ l r:List D,depthL (l++r)=max (depthL l) (depthL r)
  | [],r=>by simp [depthL]
  | d::l,r=>by simp only [List.cons_append,depthL,depthL_app l r]; exact (Nat.max_assoc _ _ _).symm
theorem knots_tk:∀ d:D,isTup d=true→knots d=1+knotsL (tk d)
  | .tup ds,_=>by simp [knots,tk,knotsL_filter]
theorem depth_tk:∀ d:D,isTup d=true→depth d=1+depthL (tk d)
  | .tup ds,_=>by simp [depth,tk,depthL_filter]
theorem tk_tups (d:D):∀ x∈tk d,isTup x=true:=by
  cases d <;> simp [tk]
theorem knots_step:∀ l:List D,(∀ x∈l,isTup x=true)→knotsL l=l.length+knotsL (l.flatMap tk)
  | [],_=>rfl
  | d::r,h=>by
    have h1:=knots_step r fun x hx=>h x (List.mem_cons_of_mem _ hx)
    have h2:=knots_tk d (h d List.mem_cons_self)
    simp only [List.flatMap_cons,knotsL_app,knotsL,List.length_cons]
    omega
theorem depth_step:∀ l:List D,(∀ x∈l,isTup x=true)→l≠[]→depthL l=1+depthL (l.flatMap tk)
  | [],_,h=>(h rfl).elim
  | [d],h,_=>by
    have h2:=depth_tk d (h d List.mem_cons_self)
    simp only [List.flatMap_cons,List.flatMap_nil,List.append_nil,depthL]
    omega
  | d::e::r,h,_=>by
    have h1:=depth_step (e::r) (fun x hx=>h x (List.mem_cons_of_mem _ hx)) (by simp)
    have h2:=depth_tk d (h d List.mem_cons_self)
    rw [List.flatMap_cons,depthL_app]
    have h3:depthL (d::e::r)=max (depth d) (depthL (e::r)):=rfl
    omega
theorem tups_step (l:List D):∀ x∈l.flatMap tk,isTup x=true:=by
  intro x hx
  obtain ⟨d,_,h⟩:=List.mem_flatMap.mp hx
  exact tk_tups d x h
theorem lv_nil:∀ n,lv n []=[]
  | 0=>rfl
  | n+1=>by rw [lv,List.flatMap_nil]; exact lv_nil n
theorem lv_succ:∀ n l,lv (n+1) l=(lv n l).flatMap tk
  | 0,l=>rfl
  | n+1,l=>by rw [lv,lv_succ n,← lv]
theorem lv_tups:∀ n l,(∀ x∈l,isTup x=true)→∀ x∈lv n l,isTup x=true
  | 0,_,h=>h
  | n+1,l,_=>lv_tups n _ (tups_step l)
def upto:Nat→List D→Nat
  | 0,_=>0
  | n+1,l=>upto n l+(lv n l).length
theorem upto_succ':∀ n l,upto (n+1) l=l.length+upto n (l.flatMap tk)
  | 0,l=>by simp [upto,lv]
  | n+1,l=>by
    have:=upto_succ' n l
    simp only [upto] at this ⊢
    rw [show lv (n+1) l=lv n (l.flatMap tk) from rfl]
    omega
theorem knots_upto:∀ n l,(∀ x∈l,isTup x=true)→knotsL l=upto n l+knotsL (lv n l)
  | 0,l,_=>by simp [upto,lv]
  | n+1,l,h=>by
    have h1:=knots_step l h
    have h2:=knots_upto n (l.flatMap tk) (tups_step l)
    rw [upto_succ',show lv (n+1) l=lv n (l.flatMap tk) from rfl]
    omega
theorem lv_empty:∀ n l,(∀ x∈l,isTup x=true)→(lv n l=[]↔depthL l≤n)
  | 0,l,h=>by
    cases l with
    | nil=>simp [lv,depthL]
    | cons d r =>
      have:=depth_step (d::r) h (by simp)
      simp only [lv]
      constructor
      · intro q; cases q
      · intro q; omega
  | n + 1, l, h => by
    cases l with
    | nil=>simp [lv_nil,depthL]
    | cons d r =>
      have h1:=depth_step (d::r) h (by simp)
      have h2:=lv_empty n ((d::r).flatMap tk) (tups_step _)
      rw [show lv (n+1) (d::r)=lv n ((d::r).flatMap tk) from rfl,h2]
      omega
theorem upto_knots (n:Nat) (l:List D) (h:∀ x∈l,isTup x=true):upto n l≤knotsL l:=by
  have:=knots_upto n l h
  omega
theorem small_iff (l:List D) (h:∀ x∈l,isTup x=true):(upto 40 l≤600∧lv 40 l=[])↔(knotsL l≤600∧depthL l≤40):=by
  rw [lv_empty 40 l h]
  have e:=knots_upto 40 l h
  constructor
  · rintro ⟨h1,h2⟩
    rw [(lv_empty 40 l h).mpr h2] at e
    simp only [knotsL] at e
    exact ⟨by omega,h2⟩
  · rintro ⟨h1,h2⟩
    exact ⟨by omega,h2⟩
end KM
end
section
namespace L3
open PySem PySem.Spec PyProof.Rows L2 KM
mutual
/-- v stands for d on the heap H -/
def Rep (H:Hp):D→V→Prop
  | .non,v=>v=.non
  | .bl b,v=>v=.bl b
  | .int i,v=>v=.int i
  | .str x,v=>v=.str x∧x.length≤1000
  | .tup ds,v=>∃ a vs,v=.ref a∧H a=some (.tup vs)∧Reps H ds vs
def Reps (H:Hp):List D→List V→Prop
  | [],vs=>vs=[]
  | d::ds,vs=>∃ v r,vs=v::r∧Rep H d v∧Reps H ds r
end
mutual
theorem Rep.mono {H H':Hp} (h:Same H H'):∀ {d:D} {v:V},Rep H d v→Rep H' d v
  | .non,_,r=>r
  | .bl _,_,r=>r
  | .int _,_,r=>r
  | .str _,_,r=>r
  | .tup _,_,⟨a,vs,e,q,r⟩=>⟨a,vs,e,h _ _ q,Reps.mono h r⟩
theorem Reps.mono {H H':Hp} (h:Same H H'):∀ {ds:List D} {vs:List V},Reps H ds vs→Reps H' ds vs
  | [],_,r=>r
  | _::_,_,⟨v,r,e,q,t⟩=>⟨v,r,e,Rep.mono h q,Reps.mono h t⟩
end
theorem Reps.length {H:Hp}:∀ {ds:List D} {vs:List V},Reps H ds vs→vs.length=ds.length
  | [],_,r=>by
    have r:_=[]:=r
    rw [r]; rfl
  | _::_,_,⟨v,r,e,q,t⟩=>by
    rw [e,List.length_cons,List.length_cons,Reps.length t]
theorem Reps.get {H:Hp}:∀ {ds:List D} {vs:List V} {i:Nat} {d:D},Reps H ds vs→ds[i]?=some d→∃ v,vs[i]?=some v∧Rep H d v
  | [],_,_,_,_,e=>by simp at e
  | d::_,_,0,_,⟨v,r,e,q,t⟩,h=>by
    simp at h
    subst h
    exact ⟨v,by rw [e]; rfl,q⟩
  | _::ds,_,i+1,d,⟨v,r,e,q,t⟩,h=>by
    obtain ⟨u,h1,h2⟩:=Reps.get (i:=i) t (by simpa using h)
    exact ⟨u,by rw [e]; simpa using h1,h2⟩
theorem Reps.get' {H:Hp} {ds:List D} {vs:List V} {i:Nat} {v:V} (r:Reps H ds vs) (e:vs[i]?=some v):∃ d,ds[i]?=some d∧Rep H d v:=by
  have hi:i<vs.length:=(List.getElem?_eq_some_iff.mp e).1
  rw [r.length] at hi
  obtain ⟨u,h1,h2⟩:=r.get (d:=ds[i]) (i:=i) (by simp [hi])
  rw [e] at h1
  cases h1
  exact ⟨ds[i],by simp [hi],h2⟩
theorem Reps.append {H:Hp}:∀ {ds es:List D} {vs us:List V},Reps H ds vs→Reps H es us→Reps H (ds++es) (vs++us)
  | [],_,_,_,r,q=>by
    have r:_=[]:=r
    subst r
    exact q
  | _::_,_,_,_,⟨v,r,e,p,t⟩,q=>by
    subst e
    exact ⟨v,r++_,rfl,p,Reps.append t q⟩
theorem Reps.one {H:Hp} {d:D} {v:V} (r:Rep H d v):Reps H [d] [v]:=⟨v,[],rfl,r,rfl⟩
def tyD:D→String
  | .non => "NoneType"
  | .bl _ => "bool"
  | .int _ => "int"
  | .str _ => "str"
  | .tup _ => "tuple"
theorem Rep.ty {K:PySem.W.Frag} {H:Hp}:∀ {d:D} {v:V},Rep H d v→TyOf K H v (.type (tyD d))
  | .non,_,r=>by cases (show _=V.non from r); exact .non
  | .bl b,_,r=>by cases (show _=V.bl b from r); exact .bl b
  | .int i,_,r=>by cases (show _=V.int i from r); exact .int i
  | .str x,_,r=>by cases (show _=V.str x from r.1); exact .str x
  | .tup _,_,⟨a,vs,e,q,_⟩=>by cases e; exact .tup q
def isStrD:D→Bool
  | .str _=>true
  | _=>false
def isBlD:D→Bool
  | .bl _=>true
  | _=>false
def isIntD:D→Bool
  | .bl _=>true
  | .int _=>true
  | _=>false
theorem kit_tup (K:PySem.W.Frag) (d:D):PySem.W.kitOne K (.type (tyD d)) (.type "tuple")=some (isTup d):=by cases d <;> rfl
theorem kit_bl (K:PySem.W.Frag) (d:D):PySem.W.kitOne K (.type (tyD d)) (.type "bool")=some (isBlD d):=by cases d <;> rfl
theorem kit_int (K:PySem.W.Frag) (d:D):PySem.W.kitOne K (.type (tyD d)) (.type "int")=some (isIntD d):=by cases d <;> rfl
theorem same_new {H:Hp} {p:Addr} (h:H p=none) (o:HO):Same H (upd H p o):=fun b u q=>by rw [upd_ne (ne_of_none q h)]; exact q
end L3
end
section
namespace L3
open PySem PySem.Spec PyProof.Rows L2
theorem part_of {u:Value} {o:Option Int} (p:IsPart u o):∃ q:Option (Int×Tok),u=partValue q∧q.map (·.1)=o:=by
  cases p with
  | none=>exact ⟨none,rfl,rfl⟩
  | int i t=>exact ⟨some (i,t),rfl,rfl⟩
end L3
end
section
namespace L3
open PySem PySem.Spec PyProof.Rows L2
def tCut (t u:TS):TS:=fun D σ H=>∃ M:L2.St→Hp→Prop,t { D with nx:=M } σ H∧∀ σ' H',M σ' H'→u D σ' H'
theorem pss_cut {X:Cx} {st:Stmt} {rest:List Stmt} {t u:TS} (h1:PS X st t) (h2:PSs X rest u):PSs X (st::rest) (tCut t u):=by
  intro pins s σ H D I h
  obtain ⟨M,h,hM⟩:=h
  refine wpAny_execs_cons (thn (h1 pins s σ H { D with nx:=M } I h) fun f s1 q=>?_)
  cases f with
  | next =>
    obtain ⟨σ',H',I',q⟩:=q
    exact h2 pins s1 σ' H' D I' (hM σ' H' q)
  | ret v=>exact q
  | brk=>exact q
  | cont=>exact q
theorem for_by {J:It} {g:TG} {tb:TS} {D:Ends} {σ:L2.St} {H:Hp} (n:Nat) (Pv:Nat→L2.St→Hp→Prop) (h0:Pv 0 σ H)
    (hgo:∀ i σ H,i<n→Pv i σ H→J.go i H∧∀ x H',J.yld i H x H'→g x σ H' fun σ2 H2=>tb { D with nx:=Pv (i+1),ct:=Pv (i+1),bk:=D.nx } σ2 H2) (hd:∀ σ H,Pv n σ H→J.stop n H∧D.nx σ H) :
    ∃ W:Nat→Nat→L2.St→Hp→Prop,(∃ m,W 0 m σ H)∧∀ i m σ H,W i m σ H →
      (J.stop i H∧D.nx σ H)∨(J.go i H∧∃ N:L2.St→Hp→Prop,(∀ σ' H',N σ' H'→∃ m',m'<m∧W (i+1) m' σ' H')∧∀ x H',J.yld i H x H'→g x σ H' fun σ2 H2=>tb { D with nx:=N,ct:=N,bk:=D.nx } σ2 H2):=by
  refine ⟨fun i m σ H=>m=n-i∧i≤n∧Pv i σ H,⟨n,by simp,Nat.zero_le _,h0⟩,?_⟩
  rintro i m σ H ⟨rfl,hi,p⟩
  by_cases hlt:i<n
  · obtain ⟨g1,g2⟩:=hgo i σ H hlt p
    exact .inr ⟨g1,Pv (i+1),fun σ' H' p'=>⟨n-(i+1),by omega,rfl,hlt,p'⟩,g2⟩
  · obtain rfl:i=n:=by omega
    exact .inl (hd σ H p)
def SameX (p:Addr) (H H':Hp):Prop:=∀ b o,b≠p→H b=some o→H' b=some o
theorem SameX.trans {p:Addr} {H H1 H2:Hp} (a:SameX p H H1) (b:SameX p H1 H2):SameX p H H2:=fun c o n h=>b c o n (a c o n h)
theorem _root_.L2.Same.x {p:Addr} {H H':Hp} (a:Same H H'):SameX p H H':=fun c o _ h=>a c o h
theorem SameX.upd {p:Addr} {H:Hp} (o:HO):SameX p H (upd H p o):=fun b u n h=>by rw [upd_ne n]; exact h
mutual
theorem Rep.monoX {p:Addr} {H H':Hp} (h:SameX p H H') (hp:∀ vs,H p≠some (.tup vs)):∀ {d:KM.D} {v:V},Rep H d v→Rep H' d v
  | .non,_,r=>r
  | .bl _,_,r=>r
  | .int _,_,r=>r
  | .str _,_,r=>r
  | .tup _,_,⟨a,vs,e,q,r⟩=>⟨a,vs,e,h _ _ (fun z=>hp vs (by rw [← z]; exact q)) q,Reps.monoX h hp r⟩
theorem Reps.monoX {p:Addr} {H H':Hp} (h:SameX p H H') (hp:∀ vs,H p≠some (.tup vs)):∀ {ds:List KM.D} {vs:List V},Reps H ds vs→Reps H' ds vs
  | [],_,r=>r
  | _::_,_,⟨v,r,e,q,t⟩=>⟨v,r,e,Rep.monoX h hp q,Reps.monoX h hp t⟩
end
end L3
end
section
namespace L3
open PySem PySem.Spec PyProof.Rows L2
section
variable {prog:Program} {w:World} {A:Around} {E:Value→Shared→Prop} {s:Shared} {d:Addr} {o:Obj} {es:Array DictEntry} {ep:Nat} {hsh:Int}
end
section
variable {X:Cx} {pins:List (Addr×Obj)} {σ:L2.St} {H:Hp} {s:Shared} {a:Addr} {D:List (Str×V)} {A:Around} {E:Value→Shared→Prop}
end
end L3
end
section
namespace L3
open PySem L2
section
variable {prog:Program} {w:World} {A:Around} {E:Value→Shared→Prop} {s:Shared}
theorem nx_lst {it t:Addr} {i:Nat} {its:Array Value} {x:Value} {Q:Value→Shared→Prop} (gi:s.heap.IsListIter it t i) (gt:s.heap.IsList t its) (gx:its[i]?=some x)
    (hQ:∀ h',h'.IsListIter it t (i+1)→Heap.SameBut it s.heap h'→Q x { s with heap:=h' }):wpAny (model prog w) A (Builtin.SmallTypes.nextOf (.ref it)) Q E s:=by
  obtain ⟨oi,ei,ci,di⟩:=id gi
  obtain ⟨ot,et,_,nt,dt⟩:=gt
  unfold Builtin.SmallTypes.nextOf
  refine wpAny_bind (wpAny_callSpecial?_slot (name:=Str.ofString "__next__") gi.typeIs slot_listiter_next (wpAny_call_entry slot_listiter_next gi.typeIs entry_listiter_next ?_ (args_listiter_next _)))
  show wpAny (model prog w) _ (field (.ref it) 0 >>= _) _ _ s
  refine wpAny_bind (wpAny_field ei di (x:=.ref t) rfl ?_)
  show wpAny (model prog w) _ (if (Value.ref t==Value.none)=true then _ else _) _ _ s
  rw [if_neg (show ¬ (Value.ref t==Value.none)=true from Bool.false_ne_true)]
  show wpAny (model prog w) _ (field (.ref it) 1 >>= _) _ _ s
  refine wpAny_bind (wpAny_field ei di (x:=.int i 0) rfl ?_)
  show wpAny (model prog w) _ (seqItems? (.ref t) >>= _) _ _ s
  refine wpAny_bind (wpAny_seqItems et dt ?_)
  simp only [Int.toNat_natCast,gx]
  refine wpAny_bind (wpAny_setField ei di (by simp) (wpAny_pure ⟨x,rfl,wpAny_pure (hQ _ ?_ (Heap.SameBut.update ..))⟩))
  refine ⟨_,Heap.get?_update_self _ ei (Obj.isFreed_of_fields (Obj.data_mapFields di _)),(Obj.cls_mapFields ..).trans ci,?_⟩
  rw [Obj.data_mapFields di]
  simp [rawInt]
theorem nx_lst_end {it t:Addr} {i:Nat} {its:Array Value} {Q:Value→Shared→Prop} (hb:HB s.heap A) (na:∀ a,A.handled=some (.ref a)→a≠it) (gi:s.heap.IsListIter it t i) (gt:s.heap.IsList t its) (gx:its[i]?=none)
    (hE:∀ h' e,Heap.ExtBut it s.heap h'→(∃ o,h'.get? e=some o∧o.cls=.type "StopIteration")→E (.ref e) { s with heap:=h' }):wpAny (model prog w) A (Builtin.SmallTypes.nextOf (.ref it)) Q E s:=by
  obtain ⟨oi,ei,ci,di⟩:=id gi
  obtain ⟨ot,et,_,nt,dt⟩:=gt
  unfold Builtin.SmallTypes.nextOf
  refine wpAny_bind (wpAny_callSpecial?_slot (name:=Str.ofString "__next__") gi.typeIs slot_listiter_next (wpAny_call_entry slot_listiter_next gi.typeIs entry_listiter_next ?_ (args_listiter_next _)))
  show wpAny (model prog w) _ (field (.ref it) 0 >>= _) _ _ s
  refine wpAny_bind (wpAny_field ei di (x:=.ref t) rfl ?_)
  show wpAny (model prog w) _ (if (Value.ref t==Value.none)=true then _ else _) _ _ s
  rw [if_neg (show ¬ (Value.ref t==Value.none)=true from Bool.false_ne_true)]
  show wpAny (model prog w) _ (field (.ref it) 1 >>= _) _ _ s
  refine wpAny_bind (wpAny_field ei di (x:=.int i 0) rfl ?_)
  show wpAny (model prog w) _ (seqItems? (.ref t) >>= _) _ _ s
  refine wpAny_bind (wpAny_seqItems et dt ?_)
  simp only [Int.toNat_natCast,gx]
  refine wpAny_bind (wpAny_rule (wpAny_bind (wpAny_setField ei di (by simp) ?_)))
  exact stop_made (A:=A.in1) (hb.upd na) fun h' e k he=>hE h' e (ext_upd k) he
end
theorem draws_lst {prog:Program} {w:World} {A:Around} (it t:Addr) (ne:t≠it) (na:∀ a,A.handled=some (.ref a)→a≠it) (its:Array Value) :
    Draws prog w A it (it::t::hAdr A) its.size (fun i v=>its[i]?=some v) (fun i h=>h.IsListIter it t i∧h.IsList t its∧HB h A) where
  live:=fun _ _ st=>let ⟨o,ho,_⟩:=st.1; ⟨o,ho⟩
  frame:=fun i h h' st hk=>by
    obtain ⟨⟨o1,e1,r1⟩,⟨o2,e2,r2⟩,hb⟩:=st
    exact ⟨⟨o1,hk it (by simp) o1 e1,r1⟩,⟨o2,hk t (by simp) o2 e2,r2⟩,hb.frame fun b hb=>hk b (by simp [hb])⟩
  item:=fun i s Q E hi st hQ=>by
    refine nx_lst st.1 st.2.1 (x:=its[i]) (by simp [hi]) fun h' k1 k2=>?_
    exact hQ _ h' s.toks (by simp [hi]) ⟨k1,st.2.1.extBut k2.extBut ne,st.2.2.mono fun a o ea eo=>k2.extBut a o (na a ea) eo⟩ k2
  done:=fun s Q E st hE=>nx_lst_end st.2.2 na st.1 st.2.1 (by simp) hE
abbrev zl1 (h:Heap) (a:Addr):Heap:=h.push { cls:=.type "list_iterator",data:=.fields #[.ref a,.int 0 0] }
abbrev zl2 (h:Heap) (a b:Addr):Heap:=(zl1 h a).push { cls:=.type "list_iterator",data:=.fields #[.ref b,.int 0 0] }
abbrev zl3 (h:Heap) (a b:Addr):Heap:=(zl2 h a b).push { cls:=.type "tuple",data:=.seq #[.ref h.objs.size,.ref (zl1 h a).objs.size] }
abbrev zl4 (h:Heap) (a b:Addr):Heap:=(zl3 h a b).push { cls:=.type "tuple",data:=.seq #[.none,.none] }
abbrev zl5 (h:Heap) (a b:Addr):Heap:=(zl4 h a b).push { cls:=.type "zip",data:=.fields #[.none,.bool false,.bool false,.ref (zl2 h a b).objs.size,.ref (zl3 h a b).objs.size] }
theorem meets_zipL (a b:Addr) (xs ys:Array Value) :
    Meets (Builtin.«zip.__new__» ⟨[.type "zip", .ref a, .ref b], []⟩) (fun _ R s => s.heap.IsList a xs ∧ s.heap.IsList b ys ∧ R (.ok (.ret (.ref (zl4 s.heap a b).objs.size))) { s with heap := zl5 s.heap a b }) :=
  .of_wp fun prog w A R s h=>by
    obtain ⟨hp,g,d,tk,os⟩:=s
    obtain ⟨k1,k2,h⟩:=h
    have hsub:=sub_zip
    have t1:Heap.IsList (Shared.heap ⟨hp,g,d,tk,os⟩) a xs:=k1
    have t2:Heap.IsList (Shared.heap ⟨hp.push { cls:=.type "list_iterator",data:=.fields #[.ref a,.int 0 0] },g,d,tk,os⟩) b ys:=Heap.IsList.push k2 _
    wp_walk using wpAny_pyIter_list t1,wpAny_pyIter_list t2
    exact ⟨_,rfl,h⟩
section
variable {prog:Program} {w:World} {A:Around} {E:Value→Shared→Prop} {s:Shared}
theorem call_zipL {a b:Addr} {xs ys:Array Value} {Q:Value→Shared→Prop} (k1:s.heap.IsList a xs) (k2:s.heap.IsList b ys)
    (h:∀ h',IsZip h' (s.heap.objs.size+4) (s.heap.objs.size+2) (s.heap.objs.size+3) .none→IsPair h' (s.heap.objs.size+2) (.ref s.heap.objs.size) (.ref (s.heap.objs.size+1))→IsPair h' (s.heap.objs.size+3) .none .none →
      h'.IsListIter s.heap.objs.size a 0→h'.IsListIter (s.heap.objs.size+1) b 0→(∀ c o,s.heap.get? c=some o→h'.get? c=some o)→Q (.ref (s.heap.objs.size+4)) { s with heap:=h' }) :
    wpAny (model prog w) A (call (.type "zip") [.ref a,.ref b]) Q E s:=by
  refine callType_new F.called_zip (by decide) (F.typeCall_zip_2 _ _) (F.newCall_zip_2 _ _) (fun obj=>F.args_object_init_3 obj _ _) F.entry_zip_new (meets_zipL a b xs ys) ⟨k1,k2,?_⟩
  have e1:(zl1 s.heap a).objs.size=s.heap.objs.size+1:=Heap.size_push ..
  have e2:(zl2 s.heap a b).objs.size=s.heap.objs.size+2:=by rw [Heap.size_push,e1]
  have e3:(zl3 s.heap a b).objs.size=s.heap.objs.size+3:=by rw [Heap.size_push,e2]
  have e4:(zl4 s.heap a b).objs.size=s.heap.objs.size+4:=by rw [Heap.size_push,e3]
  have p5:(zl5 s.heap a b).get? (zl4 s.heap a b).objs.size=some _:=Heap.get?_push_size _ rfl
  have p4:(zl5 s.heap a b).get? (zl3 s.heap a b).objs.size=some _:=Heap.get?_push_of_some _ (Heap.get?_push_size _ rfl)
  have p3:(zl5 s.heap a b).get? (zl2 s.heap a b).objs.size=some _:=Heap.get?_push_of_some _ (Heap.get?_push_of_some _ (Heap.get?_push_size _ rfl))
  have p2:(zl5 s.heap a b).get? (zl1 s.heap a).objs.size=some _:=Heap.get?_push_of_some _ (Heap.get?_push_of_some _ (Heap.get?_push_of_some _ (Heap.get?_push_size _ rfl)))
  have p1:(zl5 s.heap a b).get? s.heap.objs.size=some _:=Heap.get?_push_of_some _ (Heap.get?_push_of_some _ (Heap.get?_push_of_some _ (Heap.get?_push_of_some _ (Heap.get?_push_size _ rfl))))
  show _∧_
  rw [e2,e3,e4] at p5
  rw [e1,e2] at p3
  rw [e3] at p4
  rw [e1] at p2
  rw [e4]
  refine ⟨⟨_,p5,rfl⟩,h _ p5 p3 p4 ⟨_,p1,rfl,rfl⟩ ⟨_,p2,rfl,rfl⟩ fun c o q=>?_⟩
  exact Heap.get?_push_of_some _ (Heap.get?_push_of_some _ (Heap.get?_push_of_some _ (Heap.get?_push_of_some _ (Heap.get?_push_of_some _ q))))
end
end L3
end
section
namespace L3
open PySem PySem.Spec PyProof.Rows L2
theorem sq_neL {X:Cx} {pins:List (Addr×Obj)} {σ:L2.St} {H:Hp} {s:Shared} {a d:Addr} {xs:List V} (I:Inv X pins σ H s) (q:SqL X.K H a xs) (f:FpOk X pins H d):a≠d:=fun z=>by
  subst z
  rcases q with (q | ⟨o,q⟩) | ⟨o,_,_,q,_⟩
  · rw [f.1] at q; cases q
  · rw [f.1] at q; cases q
  · have e:=I.ok.mod.kin a o q
    rcases f.2.2.2.1 with z | z
    · exact I.ok.noex a o e z
    · exact absurd (Nat.lt_of_lt_of_le (Heap.lt_size e) I.ok.bsz) (Nat.not_lt.mpr z)
def Itzl (K:PySem.W.Frag) (a b:Addr):It :=
  ⟨fun i H=>∃ xs ys x y,SqL K H a xs∧SqL K H b ys∧xs[i]?=some x∧ys[i]?=some y,
   fun i H v H'=>∃ p x y,v=.ref p∧H p=none∧H'=upd H p (.tup [x,y])∧∀ xs ys,SqL K H a xs→SqL K H b ys→xs[i]?=some x∧ys[i]?=some y,
   fun i H=>∃ xs ys,SqL K H a xs∧SqL K H b ys∧xs.length=i⟩
structure ZRecL (a b z TI TO i1 i2:Addr) (i:Nat) (h:Heap):Prop where
  z:IsZip h z TI TO .none
  TI:IsPair h TI (.ref i1) (.ref i2)
  TO:∃ u v,IsPair h TO u v
  i1:h.IsListIter i1 a i
  i2:h.IsListIter i2 b i
theorem turn_zipL {P:Program} {w:World} {K:PySem.W.Frag} {es:List Expr} {k:Nat} {pos:Pos} (a b n:Nat) :
    Turn P w K (.Tuple es k pos) (Itzl K a b) [n+4,n+2,n+3,n,n+1] (n+4) (ZRecL a b (n+4) (n+2) (n+3) n (n+1)) where
  mem:=by simp
  obj:=fun i h st c hc=>by
    simp only [List.mem_cons,List.not_mem_nil,or_false] at hc
    obtain ⟨o1,e1,_,d1⟩:=st.i1
    obtain ⟨o2,e2,_,d2⟩:=st.i2
    obtain ⟨u,v,eo⟩:=st.TO
    rcases hc with rfl | rfl | rfl | rfl | rfl
    · exact ⟨_,st.z,fun v q=>by cases q⟩
    · exact ⟨_,st.TI,fun v q=>by cases q⟩
    · exact ⟨_,eo,fun v q=>by cases q⟩
    · exact ⟨o1,e1,fun v q=>by rw [d1] at q; cases q⟩
    · exact ⟨o2,e2,fun v q=>by rw [d2] at q; cases q⟩
  keep:=fun i h h' st kp=>by
    obtain ⟨o1,e1,r1⟩:=st.i1
    obtain ⟨o2,e2,r2⟩:=st.i2
    obtain ⟨u,v,eo⟩:=st.TO
    exact ⟨kp _ (by simp) _ st.z,kp _ (by simp) _ st.TI,⟨u,v,kp _ (by simp) _ eo⟩,⟨o1,kp _ (by simp) _ e1,r1⟩,⟨o2,kp _ (by simp) _ e2,r2⟩⟩
  item:=by
    intro X hP hw hK hc i pins s σ H E I hf st hg
    subst hP hw hK
    obtain ⟨xs,ys,x,y,q1,q2,hx,hy⟩:=hg
    obtain ⟨its1,rv1,p1,_⟩:=I.list q1
    obtain ⟨its2,rv2,p2,_⟩:=I.list q2
    obtain ⟨u1,hu1,ru1⟩:=rv1.get hx
    obtain ⟨u2,hu2,ru2⟩:=rv2.get hy
    obtain ⟨u,v,eo⟩:=st.TO
    have ltz:=Heap.lt_size st.z
    have l1:i<its1.toArray.size:=by rw [List.size_toArray]; exact (List.getElem?_eq_some_iff.mp hu1).1
    have l2:i<its2.toArray.size:=by rw [List.size_toArray]; exact (List.getElem?_eq_some_iff.mp hu2).1
    have na:∀ d∈[n+4,n+2,n+3,n,n+1],a≠d:=fun d hd=>sq_neL I q1 (hf d hd)
    have nb:∀ d∈[n+4,n+2,n+3,n,n+1],b≠d:=fun d hd=>sq_neL I q2 (hf d hd)
    have ap:ZApart (n+4) (n+2) (n+3) n (n+1) (n::a::hAdr X.A.in1) ((n+1)::b::hAdr X.A.in1):=by
      have nh:∀ d∈[n+4,n+2,n+3,n,n+1],d∉hAdr X.A.in1:=fun d hd z=>I.hna hc (hf d hd).2.2.2.1 (hf d hd).2.2.2.2.2 d (mem_hAdr z) rfl
      have a1:=na (n+4) (by simp)
      have a2:=na (n+3) (by simp)
      have a3:=na (n+1) (by simp)
      have b1:=nb (n+4) (by simp)
      have b2:=nb (n+3) (by simp)
      have b3:=nb n (by simp)
      constructor <;> (try simp only [List.mem_cons,not_or]) <;> first | omega | exact ⟨by omega,by omega,nh _ (by simp)⟩
    have ha1:∀ d∈[n+4,n+2,n+3,n,n+1],∀ a,X.A.in1.handled=some (.ref a)→a≠d:=fun d hd=>I.hna hc (hf d hd).2.2.2.1 (hf d hd).2.2.2.2.2
    refine zip_nextD (draws_lst n a (na n (by simp)) (ha1 n (by simp)) its1.toArray) (draws_lst (n+1) b (nb (n+1) (by simp)) (ha1 (n+1) (by simp)) its2.toArray) ap st.z st.TI eo ⟨st.i1,p1.isList,I.hb hc⟩ ⟨st.i2,p2.isList,I.hb hc⟩ l1 l2 fun x' y' h1 tk e1 e2 z1 o1 s1 s2 pr kp=>?_
    have e1:its1.toArray[i]?=some x':=e1
    have e2:its2.toArray[i]?=some y':=e2
    have ex:u1=x':=by
      rw [List.getElem?_toArray,hu1] at e1
      exact Option.some.inj e1
    have ey:u2=y':=by
      rw [List.getElem?_toArray,hu2] at e2
      exact Option.some.inj e2
    subst ex ey
    refine ⟨_,rfl,wpAny_letOwnedTupleGo_zip (s:={ s with heap:=h1,toks:=tk }) z1 fun h2 z2 sb=>?_⟩
    have lt:∀ d∈[n+4,n+2,n+3,n,n+1],d<s.heap.objs.size:=fun d hd=>by
      have:d≤n+4:=by simp at hd; omega
      exact Nat.lt_of_le_of_lt this ltz
    have up:∀ c o,c≠n+4→h1.get? c=some o→h2.get? c=some o:=fun c o hc' e=>(sb.2 c hc').trans e
    have prT:h2.get? s.heap.objs.size=some { cls:=.type "tuple",data:=.seq #[u1,u2] }:=up _ _ (Nat.ne_of_gt ltz) pr
    refine ⟨.ref s.heap.objs.size,_,turnedNew (s:=s) (h':=h2) (t':=tk) (ch:=[n+4,n+3,n,n+1]) (T:=s.heap.objs.size) (o:=.tup [x,y]) I (fun c o hc' e=>?_) (fun d hd=>hf d (by simp only [List.mem_cons,List.not_mem_nil,or_false] at hd ⊢; rcases hd with z | z | z | z <;> simp [z])) (Nat.le_refl _) ?_,rfl,⟨_,x,y,rfl,I.hok.fresh (Nat.le_refl _),rfl,fun xs' ys' a1 a2=>?_⟩,?_,fun d hd=>?_⟩
    · simp only [List.mem_cons,List.not_mem_nil,or_false,not_or] at hc'
      exact up c o hc'.1 (kp c o hc'.1 hc'.2.1 hc'.2.2.1 hc'.2.2.2 e)
    · exact ⟨(by show 2≤sizeLine; decide),[u1,u2],.cons ru1 (.cons ru2 .nil),⟨_,prT,rfl,_,rfl⟩⟩
    · rw [I.list_inj a1 q1,I.list_inj a2 q2]
      exact ⟨hx,hy⟩
    · obtain ⟨⟨oa,ea,ra⟩,_⟩:=s1
      obtain ⟨⟨ob,eb,rb⟩,_⟩:=s2
      refine ⟨z2,up _ _ ap.TIz (kp _ _ ap.TIz ap.TITO ap.TI1 ap.TI2 st.TI),⟨_,_,up _ _ (by omega) o1⟩,⟨oa,up _ _ (by omega) ea,ra⟩,⟨ob,up _ _ (by omega) eb,rb⟩⟩
    · rw [upd_ne (Nat.ne_of_lt (lt d hd))]
      exact (hf d hd).1
  done:=by
    intro X hP hw hK hc i pins s σ H E I hf st hg
    subst hP hw hK
    obtain ⟨xs,ys,q1,q2,hl⟩:=hg
    obtain ⟨its1,rv1,p1,_⟩:=I.list q1
    obtain ⟨u,v,eo⟩:=st.TO
    have na:∀ d∈[n+4,n+2,n+3,n,n+1],a≠d:=fun d hd=>sq_neL I q1 (hf d hd)
    have nb:∀ d∈[n+4,n+2,n+3,n,n+1],b≠d:=fun d hd=>sq_neL I q2 (hf d hd)
    have ap:ZApart (n+4) (n+2) (n+3) n (n+1) (n::a::hAdr X.A.in1) ((n+1)::b::hAdr X.A.in1):=by
      have nh:∀ d∈[n+4,n+2,n+3,n,n+1],d∉hAdr X.A.in1:=fun d hd z=>I.hna hc (hf d hd).2.2.2.1 (hf d hd).2.2.2.2.2 d (mem_hAdr z) rfl
      have a1:=na (n+4) (by simp)
      have a2:=na (n+3) (by simp)
      have a3:=na (n+1) (by simp)
      have b1:=nb (n+4) (by simp)
      have b2:=nb (n+3) (by simp)
      have b3:=nb n (by simp)
      constructor <;> (try simp only [List.mem_cons,not_or]) <;> first | omega | exact ⟨by omega,by omega,nh _ (by simp)⟩
    have hi:its1.toArray.size=i:=by rw [List.size_toArray,← rv1.length]; exact hl
    subst hi
    have ha1:∀ d∈[n+4,n+2,n+3,n,n+1],∀ a,X.A.in1.handled=some (.ref a)→a≠d:=fun d hd=>I.hna hc (hf d hd).2.2.2.1 (hf d hd).2.2.2.2.2
    refine zip_stopD (draws_lst n a (na n (by simp)) (ha1 n (by simp)) its1.toArray) ap st.z st.TI eo ⟨st.i1,p1.isList,I.hb hc⟩ fun h1 kp=>⟨rfl,?_⟩
    refine turnedL (t':=s.toks) (ch:=[n+4,n+3,n,n+1]) I (fun c o hc' e=>?_) fun d hd=>hf d (by simp only [List.mem_cons,List.not_mem_nil,or_false] at hd ⊢; rcases hd with z | z | z | z <;> simp [z])
    simp only [List.mem_cons,List.not_mem_nil,or_false,not_or] at hc'
    exact kp c o hc'.1 hc'.2.1 hc'.2.2.1 hc'.2.2.2 e
  self:=fun A i s Q E st h=>wpAny_pyIter_zip st.z h
def iZipL (K:PySem.W.Frag) (ta:TA):TI:=fun σ H R=>ta σ H fun vs H1=>∃ a b xs ys,vs=[.ref a,.ref b]∧SqL K H1 a xs∧SqL K H1 b ys∧R (Itzl K a b) H1
theorem pi_zipL {X:Cx} {es:List Expr} {k:Nat} {tpos:Pos} {a b:Expr} {ta:TA} {p pos:Pos} (hg:Gl X "zip") (hm:X.mg "zip" = none) (ha:PA X [a,b] ta) (hs:starEach [a,b] X.env=[(false,eval a X.env),(false,eval b X.env)]:=by rfl)
    (hs2:starEach [b] X.env=[(false,eval b X.env)]:=by rfl):PI X (.Tuple es k tpos) (.Call (.Name "zip" p) [a,b] [] pos) (iZipL X.K ta):=by
  intro pins s σ H R I h
  refine Call_ (ld_blt I hg hm boot_zip (PyProof.Rows.callWith_type1 (thn (ha pos pins s σ H _ I h) fun us s1 ⟨vs,H1,I1,r1,q1⟩=>?_) (by rw [hs,hs2]) (by rw [hs2]; rfl)))
  obtain ⟨a1,b1,xs,ys,e,k1,k2,q⟩:=q1
  subst e
  obtain ⟨u1,u2,rfl,ru1,ru2⟩:=Vals.two r1
  cases ru1
  cases ru2
  obtain ⟨its1,rv1,p1,_⟩:=I1.list k1
  obtain ⟨its2,rv2,p2,_⟩:=I1.list k2
  refine call_zipL p1.isList p2.isList fun h1 z1 t1 o1 s1' s2' kp=>?_
  refine wpAny_pyIter_zip (s:={ s1 with heap:=h1 }) z1 ?_
  have I2:Inv X pins σ H1 { s1 with heap:=h1 }:=I1.kept (t':=s1.toks) kp
  refine ⟨_,_,_,_,H1,rfl,I2,turn_zipL a1 b1 s1.heap.objs.size,⟨z1,t1,⟨_,_,o1⟩,s1',s2'⟩,fun d hd=>?_,q⟩
  have:s1.heap.objs.size≤d:=by
    simp only [List.mem_cons,List.not_mem_nil,or_false] at hd
    rcases hd with z | z | z | z | z <;> rw [z] <;> first | exact Nat.le_add_right _ _ | exact Nat.le_refl _
  exact I1.fpOk this (I1.hok.fresh this)
end L3
end
section
namespace L3
open PySem PySem.Spec PyProof.Rows L2
theorem bt_tuple:bootBuiltins "tuple" = some (.type "tuple"):=by decide +kernel
theorem bt_int:bootBuiltins "int" = some (.type "int"):=by decide +kernel
theorem bt_bool:bootBuiltins "bool" = some (.type "bool"):=by decide +kernel
theorem bt_list:bootBuiltins "list" = some (.type "list"):=by decide +kernel
theorem bt_len:bootBuiltins "len" = some (.builtin "len"):=by decide +kernel
theorem bt_isinstance:bootBuiltins "isinstance" = some (.builtin "isinstance"):=by decide +kernel
theorem bt_max:bootBuiltins "max" = some (.builtin "max"):=by decide +kernel
def Df (K:PySem.W.Frag) (mg:Str→Option Value) (x:Str) (st:Stmt) (ps:List Str):Prop:=∃ f fd,Fun K x x st f fd∧mg x=some (.ref f)∧Binds K fd ps []
def Cal (P:Program) (w:World) (K:PySem.W.Frag) (mg:Str→Option Value) (CX:CXT) (x:Str) (k:Nat) (ps:List Str) (sp:Sp):Prop :=
  ∃ f fd,(∀ base,FnOk P w K mg base CX k f fd ps sp)∧mg x=some (.ref f)∧PySem.W.keepIn K (.ref f)=true∧Binds K fd ps []
section
variable {P:Program} {w:World} {K:PySem.W.Frag} {mg:Str→Option Value}
theorem Df.ok {x:Str} {st:Stmt} {N ps:List Str} {k:Nat} {sp:Sp} (D:Df K mg x st ps) (S:FnScope N ps (defScope st)) (len:∀ vs H Q E,sp vs H Q E→vs.length=ps.length)
    (hbody:∀ (base:Heap) (f:Addr) (cdv:Value) (A:Around) (outer:List Env) (s:Shared) (H:Hp) (vs:List V) (Q:VK) (E:XK),Room k (A.deeper (envOfC x (defScope st) s.heap.objs.size f cdv))→sp vs H Q E →
      ∃ t,PSs (cxOf CX0 P w K mg base N x (defScope st) f cdv A outer s H E).nox (defBody st) t∧t { nx:=fun _ H'=>Q .non H',rt:=Q } (start N vs) H):Cal P w K mg CX0 x (k+1) ps sp:=by
  obtain ⟨f,fd,F,m,b⟩:=D
  exact ⟨f,fd,fun base=>F.ok S len (hbody base f),m,F.kp,b⟩
theorem Cal.never {x:Str} {st:Stmt} {ps:List Str} {sp:Sp} {k:Nat} {CX:CXT} (D:Df K mg x st ps) (no:∀ vs H Q E,¬ sp vs H Q E):Cal P w K mg CX x k ps sp:=by
  obtain ⟨f,fd,F,m,b⟩:=D
  exact ⟨f,fd,fun base=>⟨fun vs H Q E h=>absurd h (no vs H Q E),fun A outer s H args us vs Q E _ _ _ _ h=>absurd h (no vs H Q E)⟩,m,F.kp,b⟩
end
def hidX (h:Heap) (H:Hp) (fs:List Addr):Heap:=PySem.W.hideAll (hidT h H) fs
theorem hidX_get {h:Heap} {H:Hp} {fs:List Addr} {b:Addr} {o:Obj} (e:h.get? b=some o) (n:H b=none) (hf:b∉fs):(hidX h H fs).get? b=some o:=PySem.W.hideAll_get _ (hidT_get e n) hf
theorem of_hidX {h:Heap} {H:Hp} {fs:List Addr} {b:Addr} {o:Obj} (e:(hidX h H fs).get? b=some o):h.get? b=some o∧H b=none:=of_hidT (PySem.W.of_hideAll fs e)
theorem hidX_size (h:Heap) (H:Hp) (fs:List Addr):(hidX h H fs).objs.size=h.objs.size:=(PySem.W.hideAll_size _ _).trans (hidT_size h H)
theorem funFrames_of {h B B':Heap}:∀ {l:List Env},h.FunFrames B l→(∀ L∈frs l,B'.get? L=none)→h.FunFrames B' l
  | [],_,_=>trivial
  | env::l,⟨hk,⟨L,o,hf,_,ho,hd⟩,hr⟩,hn=>⟨hk,⟨L,o,hf,hn L (by unfold frs; rw [List.filterMap_cons,hf]; exact List.mem_cons_self),ho,hd⟩,funFrames_of hr fun b hb=>hn b (by unfold frs at hb ⊢; rw [List.filterMap_cons,hf]; exact List.mem_cons_of_mem _ hb)⟩
theorem env1 {X:Cx} {pins:List (Addr×Obj)} {σ:L2.St} {H:Hp} {s:Shared} (I:Inv X pins σ H s) (hc:X.calm=true):Env0 X.prog X.w X.K X.mg (hidX s.heap H (frs X.stack)) X.A X.stack s H:=by
  have nf:∀ b o,X.base.get? b=some o→b∉frs X.stack:=fun b o e z=>by
    rcases List.mem_cons.mp (I.stkSub b z) with z | z
    · have:=Heap.lt_size e
      rw [z] at this
      exact absurd this (Nat.not_lt.mpr (Nat.le_trans I.ok.bsz I.ok.above))
    · exact I.ok.nofr e z
  have up:∀ b o,X.base.get? b=some o→(hidX s.heap H (frs X.stack)).get? b=some o:=fun b o e=>hidX_get (I.bs b o e).1 (I.bs b o e).2 (nf b o e)
  obtain ⟨mb,b1,b2⟩:=I.ok.mod.blt
  refine ⟨I.ok.frames,⟨I.ok.mod.kin.keeps up,I.ok.mod.glob.keeps up,⟨mb,b1.keeps up,b2⟩,I.ok.mod.nolimit.keeps up,I.ok.mod.bm.keeps up⟩,fun b o e=>of_hidX e,Nat.le_of_eq (hidX_size _ _ _),funFrames_of I.stack fun L hL=>PySem.W.hideAll_none _ hL,I.stkFree,I.hok,I.bare,?_⟩
  rcases I.ok.hd hc with h | ⟨a,oe,vs,e1,e2,e3⟩
  · exact .inl h
  · refine .inr ⟨a,oe,vs,e1,?_,e3⟩
    rcases e2 with e2 | e2
    · exact up a oe e2
    · obtain ⟨q1,q2,q3,q4,_⟩:=I.pin (a,oe) (List.mem_append_left _ e2)
      refine hidX_get q1 q2 fun z=>?_
      rcases List.mem_cons.mp (I.stkSub a z) with z | z
      · exact q3 z
      · exact q4 z
theorem run_cal {X:Cx} {CX:CXT} {k:Nat} {f:Addr} {fd:FuncData} {ps:List Str} {sp:Sp} {E:XK} {pins:List (Addr×Obj)} {σ:L2.St} {H:Hp} {s:Shared} {Q:VK} {us:List Value} {vs:List V} {XE:Value→Shared→Prop}
    (F:∀ base,FnOk X.prog X.w X.K X.mg base CX k f fd ps sp) (hr:Room k X.A) (hb:Binds X.K fd ps []) (I:Inv X pins σ H s) (hc:X.calm=true) (hx:∀ e s',CX X.A.handled X.stack H s E e s'→XE e s') (r:Vals vs us) (h:sp vs H Q E) :
    wpAny (model X.prog X.w) X.A (call (.ref f) us) (EP X pins σ Q) XE s:=by
  have hl:us.length=ps.length:=by rw [← r.length]; exact (F (hidX s.heap H (frs X.stack))).len _ _ _ _ h
  have bt:=hb s us I.kIn (by rw [List.append_nil]; exact hl)
  rw [List.append_nil] at bt
  refine wpAny_call (codeAny_mono ((F _).run X.A X.stack s H ⟨us,[]⟩ us vs Q E hr (env1 I hc) bt r h) fun r s' hq=>?_)
  cases r with
  | error e=>exact hx e s' hq
  | ok fl =>
    cases fl with
    | ret u=>exact I.after hq
    | next=>exact False.elim hq
    | brk=>exact False.elim hq
    | cont=>exact False.elim hq
theorem pe_fn {X:Cx} {CX:CXT} {x:Str} {k:Nat} {ps:List Str} {sp:Sp} {E:XK} {e:Expr} {es:List Expr} {t:TA} {p pos:Pos} (F:Cal X.prog X.w X.K X.mg CX x k ps sp) (hr:Room k X.A) (hg:Gl X x) (hx:Passes CX X E)
    (ha:PA X (e::es) t) (hdb:(x==("__debug__" : Str))=false:=by decide) (he:starEach (e::es) X.env=(false,eval e X.env)::starEach es X.env:=by rfl) (hpl:(backTo pos (starEach es X.env)).any (·.1)=false:=by rfl) (hc:X.calm=true:=by rfl) :
    PE X (.Call (.Name x p) (e::es) [] pos) (tCall sp [] E t):=by
  obtain ⟨f,fd,F,m,kp,b⟩:=F
  intro pins s σ H Q I h
  refine wpAny_Call_Name_kw (ld_glob I hg m ?_ hdb)
  refine PySem.W.callWith_K (h₀:=X.base) I.ok.mod.kin kp (thn (ha pos pins s σ H _ I h) fun us s1 ⟨vs,H1,I1,r,q⟩=>⟨I1.kIn,?_⟩) he hpl
  have q:sp (vs++[]) H1 Q E:=q
  rw [List.append_nil] at q
  exact run_cal F hr b I1 hc (fun e s' hc=>hx pins σ H1 s1 e s' I1 hc) r q
theorem pe_gint {X:Cx} {x:Str} {i:Int} {pos:Pos} (hm:∃ t,X.mg x=some (.int i t)) (hg:Gl X x) (hd:(x==("__debug__" : Str))=false:=by decide):PE X (.Name x pos) (tC (.int i)):=by
  obtain ⟨t,hm⟩:=hm
  exact pe_glob hg hm ⟨t,rfl⟩ hd
theorem pe_gref {X:Cx} {x:Str} {a:Addr} {pos:Pos} (hm:X.mg x=some (.ref a)) (hg:Gl X x) (hd:(x==("__debug__" : Str))=false:=by decide):PE X (.Name x pos) (tC (.ref a)):=pe_glob hg hm rfl hd
theorem pe_ty {X:Cx} {x:Str} {n:String} {pos:Pos} (hm:X.mg x=none) (hv:bootBuiltins x=some (.type n)) (hg:Gl X x) (hn:x ≠ "__name__" := by decide) (hd:(x==("__debug__" : Str))=false:=by decide):PE X (.Name x pos) (tC (.ty n)):=pe_bltn hg hm hv rfl hn hd
def blkChk (outer : List (Str × NameKind)) (N N' : List Str) (own : Nat) (fr : List Nat) (scope : Scope) : Bool :=
  scope.names.all (fun y=>y.2 != .cell && (y.2 != .local || scope.names.lookup y.1==some .local) && (y.2 != .free || outer.lookup y.1==some .cell || outer.lookup y.1==some .free)) &&
  decide (N'.length=own+fr.length) && (List.range fr.length).all (fun j=>match fr[j]? with
    | some i=>match N'[own+j]? with
      | some x=>N[i]?==some x && scope.names.lookup x==some .free
      | none=>false
    | none=>true)
theorem blk_of {X:Cx} {N N':List Str} {own:Nat} {fr:List Nat} {sc scope:Scope} (hs:X.env.scope=sc) (hN:X.N=N) (hk:scope.kind=.function) (h:blkChk sc.names N N' own fr scope=true):BlkScope X N' own fr scope:=by
  unfold blkChk at h
  simp only [Bool.and_eq_true,List.all_eq_true,decide_eq_true_eq] at h
  obtain ⟨⟨h1,h2⟩,h3⟩:=h
  subst hN
  refine ⟨hk,fun y hy=>?_,fun y hy e=>?_,fun y hy e=>?_,h2,fun j i e=>?_⟩
  · simpa using (h1 y hy).1.1
  · have:=(h1 y hy).1.2
    simpa [e] using this
  · have:=(h1 y hy).2
    unfold Env.kindOf
    rw [hs]
    simpa [e] using this
  · have hj:j<fr.length:=(List.getElem?_eq_some_iff.mp e).1
    have:=h3 j (by simpa using hj)
    rw [e] at this
    cases hx:N'[own+j]? with
    | none=>simp [hx] at this
    | some x =>
      simp only [hx,Bool.and_eq_true,beq_iff_eq] at this
      exact ⟨x,rfl,this.1,this.2⟩
end L3
end
section
namespace L3
open PySem PySem.Spec PyProof.Rows L2
theorem args_maxD (a v:Value):argsOk "max" ⟨[a],[(Str.ofString "default",v)]⟩:=by unfold argsOk; kernel_rfl
section
variable {prog:Program} {w:World} {A:Around} {E:Value→Shared→Prop} {s:Shared}
theorem call_treeKw {id:String} {b:Builtin} {args:List Value} {kw:List (Str×Value)} {Q:Value→Shared→Prop} (hk:builtinKind id=none) (hp:plainId id=true)
    (hb:entryFor table id=some b) (ha:argsOk id ⟨args,kw⟩)
    (hc:wpAny (model prog w) A.in1 (b ⟨args,kw⟩) (fun fin s'=>match fin with
      | .done f=>(match (Except.ok f:Result) with | .ok (.ret v)=>Q v s' | .ok _=>False | .error e=>E e s')
      | .again c'=>c'.quiet=true∧codeAny (model prog w) A c' (fun r s'=>match r with | .ok (.ret v)=>Q v s' | .ok _=>False | .error e=>E e s') s') E s) :
    wpAny (model prog w) A (call (.builtin id) args kw) Q E s:=by
  refine wpAny_call (codeAny_call_builtin hp hb ?_)
  simp only [checkBuiltinCall,hk]
  cases hsig:Manifest.signature? id with
  | none=>exact wpAny_pure hc
  | some sig =>
    simp only [argsOk,hsig] at ha
    have h2:Bind.checkArgs id sig ⟨args,kw⟩=pure ():=ha
    show wpAny _ A.in1 (Bind.checkArgs id sig ⟨args,kw⟩) _ _ s
    rw [h2]; exact wpAny_pure hc
theorem gt_ints {i j:Int} {t u:Tok} {Q:Value→Shared→Prop} (h:Q (.bool (decide (i>j))) s):wpAny (model prog w) A (richCompare .Gt (.int i t) (.int j u)) Q E s :=
  richCompare_gives (op:=.Gt) (typeIs_int s _ t) (typeIs_int s _ u) F.slot_int_gt F.entry_int_gt (F.args_int_gt_2 _ _) (gives_int_gt _ _ t u) (fun x=>nomatch x) h
end
def mxI (m x:Int):Int:=if x>m then x else m
def maxD (ns:List Int) (d:Int):Int:=match ns with
  | []=>d
  | a::r=>r.foldl mxI a
def bestIs (ns:List Int) (j:Nat) (l:Array Value):Prop:=(j=0∧l=#[])∨(0<j∧∃ t,l=#[.int (maxD (ns.take j) 0) t,.int (maxD (ns.take j) 0) t])
theorem maxD_snoc {l:List Int} (x d:Int) (h:l≠[]):maxD (l++[x]) d=mxI (maxD l d) x:=by
  cases l with
  | nil=>exact absurd rfl h
  | cons a r=>simp [maxD,List.foldl_append]
section
variable {prog:Program} {w:World} {A:Around} {R:Result→Shared→Prop} {I:Addr} {fp wr:List Addr} {P:Nat→Value→Prop} {St:Nat→Heap→Prop}
theorem max_loopD {ns:List Int} {d:Value} (W:Walks prog w A.in1 I fp wr ns.length P St) (hP:∀ (i:Nat) v,P i v→∃ x t,ns[i]?=some x∧v=.int x t) (S:Addr) (hSf:S∉fp) :
    ∀ (k j:Nat) (s:Shared) (l:Array Value) (c:Nat),ns.length-j=k→j≤ns.length→St j s.heap→bestIs ns j l →
    s.heap.get? S=some { cls:=.type "list",dict:=none,data:=.seq l c,slots:=#[] } →
    (∀ v h' tk,(ns=[]∧v=d∨ns≠[]∧∃ t,v=.int (maxD ns 0) t)→(∀ b o,b∉wr→b≠S→s.heap.get? b=some o→h'.get? b=some o)→R (.ok (.ret v)) { s with heap:=h',toks:=tk }) →
    codeAny (model prog w) A (.builtin "max.loop" ⟨[.ref I,.none,.ref S],[(Str.ofString "default",d)]⟩) R s:=by
  have hSw:S∉wr:=fun h=>hSf (W.sub _ h)
  have hname:(toString "max" ++ toString ".loop" : String) = "max.loop" := by decide
  intro k
  induction k with
  | zero =>
    intro j s l c hk hj hst hb hS hR
    have hin:j=ns.length:=by omega
    refine codeAny_builtin F.entry_max_loop ?_
    rw [Around.under_plainId F.plain_max_loop _]
    show wpAny _ A.in1 (seqItems? (.ref S) >>= _) _ _ s
    refine wpAny_bind (wpAny_seqItems hS rfl ?_)
    rcases hb with ⟨h0,rfl⟩ | ⟨h0,t,rfl⟩
    · show wpAny _ A.in1 (tryCatch (pyNext (.ref I)) _ >>= _) _ _ s
      refine wpAny_bind (wpAny_tryCatch (W.done s _ _ (hin ▸ hst) fun h' tk hk'=>?_))
      show wpAny _ A.in1 (rule _ >>= _) _ _ _
      refine wpAny_bind (wpAny_rule (wpAny_pure ?_))
      have e:ns=[]:=List.eq_nil_of_length_eq_zero (by omega)
      exact hR d _ tk (.inl ⟨e,rfl⟩) fun b o hbw hbS q=>hk' b o hbw q
    · show wpAny _ A.in1 (tryCatch (pyNext (.ref I)) _ >>= _) _ _ s
      refine wpAny_bind (wpAny_tryCatch (W.done s _ _ (hin ▸ hst) fun h' tk hk'=>?_))
      have hS':=hk' S _ hSw hS
      show wpAny _ A.in1 (updateSeq S (fun _=>#[]) >>= _) _ _ _
      refine wpAny_bind ?_
      refine wpAny_updateSeq hS' rfl (wpAny_bind (wpAny_letGo (wpAny_pure ?_)))
      have e:ns≠[]:=fun z=>by rw [z] at hin; simp at hin; omega
      refine hR _ _ tk (.inr ⟨e,t,by rw [hin,List.take_length]⟩) fun b o hbw hbS q=>(Heap.get?_update_other _ _ (Ne.symm hbS)).trans (hk' b o hbw q)
  | succ k ih =>
    intro j s l c hk hj hst hb hS hR
    have hlt:j<ns.length:=by omega
    refine codeAny_builtin F.entry_max_loop ?_
    rw [Around.under_plainId F.plain_max_loop _]
    show wpAny _ A.in1 (seqItems? (.ref S) >>= _) _ _ s
    refine wpAny_bind (wpAny_seqItems hS rfl ?_)
    have tk1:∀ x,ns[j]?=some x→ns.take (j+1)=ns.take j++[x]:=fun x hx=>by rw [List.take_add_one,hx]; rfl
    rcases hb with ⟨h0,rfl⟩ | ⟨h0,t,rfl⟩
    · show wpAny _ A.in1 (tryCatch (pyNext (.ref I)) _ >>= _) _ _ s
      refine wpAny_bind (wpAny_tryCatch (W.item j s _ _ hlt hst fun v h' tk hPv hst' hk'=>?_))
      obtain ⟨x,u,hx,rfl⟩:=hP j v hPv
      have hS':=hk' S _ hSw hS
      show wpAny _ A.in1 (updateSeq S (fun _=>#[.int x u,.int x u]) >>= _) _ _ _
      refine wpAny_bind ?_
      refine wpAny_updateSeq hS' rfl ?_
      rw [hname]
      refine wpAny_pure ⟨plainId_quiet F.plain_max_loop _,ih (j+1) _ _ _ (by omega) hlt (W.frame _ _ _ hst' fun b hbf o e=>?_) (.inr ⟨by omega,u,?_⟩) (Heap.get?_update_self _ hS' rfl) fun v' h'' tk'' hv' hk''=>?_⟩
      · exact (Heap.get?_update_other _ _ (fun h:S=b=>hSf (by rw [h]; exact hbf))).trans e
      · rw [tk1 x hx,h0]
        rfl
      · exact hR v' h'' tk'' hv' fun b o hbw hbS e=>hk'' b o hbw hbS ((Heap.get?_update_other _ _ (Ne.symm hbS)).trans (hk' b o hbw e))
    · show wpAny _ A.in1 (tryCatch (pyNext (.ref I)) _ >>= _) _ _ s
      refine wpAny_bind (wpAny_tryCatch (W.item j s _ _ hlt hst fun v h' tk hPv hst' hk'=>?_))
      obtain ⟨x,u,hx,rfl⟩:=hP j v hPv
      have hS':=hk' S _ hSw hS
      have ne:ns.take j≠[]:=fun z=>by
        have:(ns.take j).length=0:=by rw [z]; rfl
        rw [List.length_take] at this
        omega
      have em:maxD (ns.take (j+1)) 0=mxI (maxD (ns.take j) 0) x:=by rw [tk1 x hx,maxD_snoc x 0 ne]
      show wpAny _ A.in1 (tryCatch (holding [.int x u,.int x u] (richCompare .Gt (.int x u) (.int (maxD (ns.take j) 0) t) >>= _)) _ >>= _) _ _ _
      refine wpAny_bind (wpAny_tryCatch (wpAny_holding (wpAny_bind (gt_ints ?_))))
      refine wpAny_bind (wpAny_holding (wpAny_truthy_bool ?_))
      refine wpAny_bind (wpAny_letGo (wpAny_pure ?_))
      by_cases hb:x>maxD (ns.take j) 0
      · rw [decide_eq_true hb]
        simp only [if_true]
        refine wpAny_bind ?_
        refine wpAny_updateSeq hS' rfl (wpAny_bind (wpAny_letGo ?_))
        rw [hname]
        refine wpAny_pure ⟨plainId_quiet F.plain_max_loop _,ih (j+1) _ _ _ (by omega) hlt (W.frame _ _ _ hst' fun b hbf o e=>?_) (.inr ⟨by omega,u,?_⟩) (Heap.get?_update_self _ hS' rfl) fun v' h'' tk'' hv' hk''=>?_⟩
        · exact (Heap.get?_update_other _ _ (fun h:S=b=>hSf (by rw [h]; exact hbf))).trans e
        · rw [em,mxI,if_pos hb]
        · exact hR v' h'' tk'' hv' fun b o hbw hbS e=>hk'' b o hbw hbS ((Heap.get?_update_other _ _ (Ne.symm hbS)).trans (hk' b o hbw e))
      · rw [decide_eq_false hb]
        simp only [Bool.false_eq_true,if_false]
        refine wpAny_bind (wpAny_letGo ?_)
        rw [hname]
        refine wpAny_pure ⟨plainId_quiet F.plain_max_loop _,ih (j+1) _ _ c (by omega) hlt hst' (.inr ⟨by omega,t,?_⟩) hS' fun v' h'' tk'' hv' hk''=>?_⟩
        · rw [em,mxI,if_neg hb]
        · exact hR v' h'' tk'' hv' fun b o hbw hbS e=>hk'' b o hbw hbS (hk' b o hbw e)
end
theorem ints_get:∀ {ns:List Int} {us:List Value},Vals (ns.map V.int) us→∀ (i:Nat) (u:Value),us[i]?=some u→∃ x t,ns[i]?=some x∧u=.int x t
  | [],_,.nil,i,u,e=>by simp at e
  | n::ns,_,.cons r t,0,u,e=>by
    obtain ⟨tk,r⟩:=r
    simp at e
    exact ⟨n,tk,rfl,by rw [← e,r]⟩
  | n::ns,_,.cons r t,i+1,u,e=>by simpa using ints_get t i u (by simpa using e)
section
variable {X:Cx} {pins:List (Addr×Obj)} {σ:L2.St} {H:Hp} {s:Shared}
theorem run_maxD {p:Addr} {ns:List Int} {i:Int} {v:Value} {Q:VK} (hc:X.calm=true) (I:Inv X pins σ H s) (hq:SqL X.K H p (ns.map V.int)) (rv:RelV (.int i) v) (q:Q (.int (maxD ns i)) H) :
    wpAny (model X.prog X.w) X.A (call (.builtin "max") [.ref p] [(Str.ofString "default",v)]) (EP X pins σ Q) X.xe s:=by
  obtain ⟨its,r,pl,hz⟩:=I.list hq
  have hl:=pl.isList
  have lt:p<s.heap.objs.size:=by
    obtain ⟨o,e,_⟩:=hl
    exact Heap.lt_size e
  have na:∀ a,X.A.in1.handled=some (.ref a)→a≠s.heap.objs.size:=fun a ea=>by
    rcases I.hb hc with z | ⟨b,oe,vs,e1,e2,_⟩
    · rw [show X.A.in1.handled=X.A.handled from rfl,z] at ea; cases ea
    · rw [show X.A.in1.handled=X.A.handled from rfl,e1] at ea; cases ea; exact Nat.ne_of_lt (Heap.lt_size e2)
  have hname:(toString "max" ++ toString ".loop" : String) = "max.loop" := by decide
  refine call_treeKw F.kind_max F.plain_max F.entry_max (args_maxD _ _) ?_
  show wpAny _ X.A.in1 (Builtin.Builtins.bindParams "max" ["key", "default"] 0 ⟨[],[(Str.ofString "default",v)]⟩ >>= _) _ _ s
  refine wpAny_bind (wpAny_of_eq (show Builtin.Builtins.bindParams "max" ["key", "default"] 0 ⟨[],[(Str.ofString "default",v)]⟩=pure [none,some v] from rfl) ?_)
  refine wpAny_bind (wpAny_pure ?_)
  refine wpAny_bind (wpAny_pyIter_list hl ?_)
  refine wpAny_bind (wpAny_newObj_type ?_)
  have len:its.toArray.size=ns.length:=by rw [List.size_toArray,← r.length,List.length_map]
  have WL:=walks_list (prog:=X.prog) (w:=X.w) (A:=X.A.in1) s.heap.objs.size p (Nat.ne_of_lt lt) its.toArray na
  rw [len] at WL
  rw [hname]
  have hS0:((s.heap.push { cls:=.type "list_iterator",data:=.fields #[.ref p,.int 0 0] }).objs.size)∉s.heap.objs.size::p::hAdr X.A.in1:=by
    rw [Heap.size_push]
    intro z
    rcases List.mem_cons.mp z with z | z
    · exact Nat.succ_ne_self _ z
    · rcases List.mem_cons.mp z with z | z
      · rw [← z] at lt
        exact Nat.not_succ_lt_self lt
      · have ez:=mem_hAdr z
        rcases I.hb hc with q | ⟨b,oe,vs,e1,e2,_⟩
        · rw [show X.A.in1.handled=X.A.handled from rfl,q] at ez; cases ez
        · rw [show X.A.in1.handled=X.A.handled from rfl,e1] at ez
          cases ez
          exact Nat.not_succ_lt_self (Heap.lt_size e2)
  refine wpAny_pure ⟨plainId_quiet F.plain_max_loop _,max_loopD (d:=v) WL (fun j u e=>ints_get r j u (by simpa using e)) _ hS0 _ 0 _ #[] _ rfl (Nat.zero_le _) ?_ (.inl ⟨rfl,rfl⟩) (Heap.get?_push_size _ rfl) fun u h' tk hv hk=>?_⟩
  · exact ⟨⟨_,Heap.get?_push_of_some _ (Heap.get?_push_size _ rfl),rfl,rfl⟩,(hl.push _).push _,(I.hb hc).mono fun a o _ eo=>Heap.get?_push_of_some _ (Heap.get?_push_of_some _ eo)⟩
  · refine ⟨.int (maxD ns i),H,I.kept (h':=h') (t':=tk) fun b o eb=>hk b o (fun hm=>?_) (fun hm=>?_) (Heap.get?_push_of_some _ (Heap.get?_push_of_some _ eb)),?_,q⟩
    · rw [List.mem_singleton.mp hm] at eb
      exact Nat.lt_irrefl _ (Heap.lt_size eb)
    · have:=Heap.lt_size eb
      rw [hm,Heap.size_push] at this
      exact Nat.not_succ_lt_self this
    · rcases hv with ⟨rfl,rfl⟩ | ⟨hne,t,rfl⟩
      · exact rv
      · refine ⟨t,?_⟩
        cases ns with
        | nil=>exact absurd rfl hne
        | cons a r=>rfl
end
def tMaxD (K:PySem.W.Frag) (t tk:TA):TE:=fun σ H Q=>t σ H fun vs H1=>tk σ H1 fun zs H2=>∃ p ns i,vs=[.ref p]∧zs=[.int i]∧SqL K H2 p (ns.map V.int)∧Q (.int (maxD ns i)) H2
theorem pe_maxD {X:Cx} {e d:Expr} {t tk:TA} {p kp pos:Pos} (hm:X.mg "max" = none) (ha:PA X [e] t) (hk:PK X [⟨some (Str.ofString "default"),d,kp⟩] tk) (hc:X.calm=true:=by rfl) (hg:Gl X "max" := by rfl)
    (he:starEach [e] X.env=[(false,eval e X.env)]:=by rfl):PE X (.Call (.Name "max" p) [e] [⟨some (Str.ofString "default"),d,kp⟩] pos) (tMaxD X.K t tk):=by
  intro pins s σ H Q I h
  refine wpAny_Call_Name_kw (ld_blt I hg hm bt_max ?_)
  refine callWith_kw (thn (ha pos pins s σ H _ I h) fun us s1 ⟨vs,H1,I1,r1,q1⟩=>thn (hk pos pins s1 σ H1 _ I1 q1) fun ws s2 ⟨zs,H2,I2,r2,q2⟩=>?_) (by rw [he]; rfl) (by rw [he]; rfl)
  obtain ⟨p,ns,i,rfl,rfl,hq,q⟩:=q2
  obtain ⟨u,rfl,ru⟩:=r1.one
  cases ru
  obtain ⟨v,rfl,rv⟩:=r2.one
  exact run_maxD hc I2 hq rv q
end L3
end
section
namespace L3
open PySem PySem.Spec PyProof.Rows L2
theorem same_upd {H H2:Hp} {p:Addr} {o:HO} (h:Same H H2) (hp:H p=none):Same H (upd H2 p o):=fun b u q=>by rw [upd_ne (ne_of_none q hp)]; exact h b u q
theorem comp_opt {J:It} {p:Addr} {H1:Hp} {g:TG} {tt:TT} {te:TE} {b:L2.St} {C:Hp→Prop} (n:Nat) (f:Nat→Option V) (hp:H1 p=none) (hn:n≤sizeLine)
    (hgo:∀ i H2,i<n→Same H1 H2→J.go i H2∧∀ x H3,J.yld i H2 x H3→∀ (R:V→Hp→Prop) (R0:Hp→Prop),(∀ v H6,f i=some v→Same H2 H6→R v H6)→(∀ H5,f i=none→Same H2 H5→R0 H5) →
      g x b H3 fun σ4 H4=>tt σ4 H4 fun ok H5=>if ok=true then te σ4 H5 R else R0 H5)
    (hd:∀ H2,Same H1 H2→H2 p=some (.lst ((List.range n).filterMap f))→J.stop n H2∧C H2) :
    ∃ W:Nat→Nat→List V→Hp→Prop,(∃ m,W 0 m [] (upd H1 p (.lst [])))∧∀ i m acc H2,W i m acc H2→(J.stop i H2∧C H2)∨(J.go i H2∧∀ x H3,J.yld i H2 x H3→g x b H3 fun σ4 H4=>tt σ4 H4 fun ok H5 =>
      if ok=true then te σ4 H5 fun v H6=>H6 p=some (.lst acc)∧acc.length<sizeLine∧∃ m',m'<m∧W (i+1) m' (acc++[v]) (upd H6 p (.lst (acc++[v]))) else ∃ m',m'<m∧W (i+1) m' acc H5):=by
  refine comp_by (Q:=fun _ H=>C H) n (fun i acc H2=>acc=(List.range i).filterMap f∧H2 p=some (.lst acc)∧Same H1 H2) ⟨rfl,upd_same,same_new hp _⟩ ?_ ?_
  · rintro i acc H2 hi ⟨rfl,h2,s2⟩
    obtain ⟨g1,g2⟩:=hgo i H2 hi s2
    have lng:((List.range i).filterMap f).length<sizeLine:=by
      have:=List.length_filterMap_le f (List.range i)
      rw [List.length_range] at this
      omega
    refine ⟨g1,fun x H3 y=>g2 x H3 y _ _ (fun v H6 e s6=>⟨s6 _ _ h2,lng,nx hi ⟨?_,upd_same,same_upd (s2.trans s6) hp⟩⟩) fun H5 e s5=>nx hi ⟨?_,s5 _ _ h2,s2.trans s5⟩⟩
    · rw [List.range_succ,List.filterMap_append]; simp [e]
    · rw [List.range_succ,List.filterMap_append]; simp [e]
  · rintro acc H2 ⟨rfl,h2,s2⟩
    exact hd H2 s2 h2
theorem comp_vals {J:It} {p:Addr} {H1:Hp} {g:TG} {te:TE} {b:L2.St} {C:Hp→Prop} (n:Nat) (f:Nat→V) (hp:H1 p=none) (hn:n≤sizeLine)
    (hgo:∀ i H2,i<n→Same H1 H2→J.go i H2∧∀ x H3,J.yld i H2 x H3→∀ (R:V→Hp→Prop),(∀ H6,Same H2 H6→R (f i) H6)→g x b H3 fun σ4 H4=>te σ4 H4 R)
    (hd:∀ H2,Same H1 H2→H2 p=some (.lst ((List.range n).map f))→J.stop n H2∧C H2) :
    ∃ W:Nat→Nat→List V→Hp→Prop,(∃ m,W 0 m [] (upd H1 p (.lst [])))∧∀ i m acc H2,W i m acc H2→(J.stop i H2∧C H2)∨(J.go i H2∧∀ x H3,J.yld i H2 x H3→g x b H3 fun σ4 H4=>tYes σ4 H4 fun ok H5 =>
      if ok=true then te σ4 H5 fun v H6=>H6 p=some (.lst acc)∧acc.length<sizeLine∧∃ m',m'<m∧W (i+1) m' (acc++[v]) (upd H6 p (.lst (acc++[v]))) else ∃ m',m'<m∧W (i+1) m' acc H5):=by
  refine comp_by (Q:=fun _ H=>C H) n (fun i acc H2=>acc=(List.range i).map f∧H2 p=some (.lst acc)∧Same H1 H2) ⟨rfl,upd_same,same_new hp _⟩ ?_ ?_
  · rintro i acc H2 hi ⟨rfl,h2,s2⟩
    obtain ⟨g1,g2⟩:=hgo i H2 hi s2
    refine ⟨g1,fun x H3 y=>?_⟩
    simp only [tYes,if_true]
    refine g2 x H3 y _ fun H6 s6=>⟨s6 _ _ h2,by rw [List.length_map,List.length_range]; omega,nx hi ⟨?_,upd_same,same_upd (s2.trans s6) hp⟩⟩
    rw [List.range_succ,List.map_append]; rfl
  · rintro acc H2 ⟨rfl,h2,s2⟩
    exact hd H2 s2 h2
end L3
end
section
namespace HT
open PySem PyProof.Rows
section
open PySem.SeqAt
open PySem.AutoSeq1 (wpAny_loadPart')
open PySem.MeetsSeq PySem.MeetsSeq2 PySem.MeetsSeq3
variable {prog:Program} {w:World} {A:Around} {E:Value→Shared→Prop} {s:Shared}
theorem getItem_tuple_whole {t sl:Addr} {items:Array Value} {vl vu:Value} {lo hi:Option Int} {Q:Value→Shared→Prop} (ht:IsTup s.heap t items) (hs:s.heap.IsSliceOf sl vl vu .none) (pl:IsPart vl lo) (pu:IsPart vu hi)
    (h1:sIx items.size 0 lo=0) (h2:sIx items.size items.size hi=items.size) (h:Q (.ref t) s):wpAny (model prog w) A (getItem (.ref t) (.ref sl)) Q E s:=by
  obtain ⟨os,hos,hcs,hds⟩:=id hs
  have hTs:s.TypeIs (.ref sl) "slice" := ⟨os,hos,hcs⟩
  unfold getItem
  try with_reducible refine wpAny_holding ?_
  first | refine wpAny_bind (wpAny_pure ?_) | skip
  refine wpAny_bind (wpAny_sequenceKey ht.typeIs (by decide) ?_)
  refine wpAny_bind (wpAny_callSpecial?_slot (name:=Str.ofString "__getitem__") ht.typeIs PyProof.Rows.slot_tuple_getitem
    (wpAny_call_entry PyProof.Rows.slot_tuple_getitem ht.typeIs entry_tuple_getitem ?_ (args_tuple_getitem _ _)))
  show wpAny _ _ (Builtin.Tuple.tupleItemsOf (.ref t) >>= _) _ _ s
  refine wpAny_bind (tupleItemsOf_ ht ?_)
  refine wpAny_bind (wpAny_typeOf hTs ?_)
  rw [if_pos (by decide)]
  refine wpAny_bind (sliceApplied_gen hs pl pu ?_)
  have hyes:(((sIx items.size 0 lo:Nat):Int)==0 && (1:Int)==1 && (sIx items.size items.size hi-sIx items.size 0 lo)==items.size)=true:=by
    rw [h1,h2]; simp
  show wpAny _ _ (if (((sIx items.size 0 lo:Nat):Int)==0 && (1:Int)==1 && (sIx items.size items.size hi-sIx items.size 0 lo)==items.size)=true then _ else _) _ _ s
  rw [if_pos hyes]
  show wpAny _ _ (Builtin.Tuple.tupleIsExact (.ref t) >>= _) _ _ s
  refine wpAny_bind ?_
  unfold Builtin.Tuple.tupleIsExact
  refine wpAny_bind (wpAny_typeOf ht.typeIs (wpAny_pure ?_))
  rw [if_pos (by decide)]
  exact wpAny_bind (wpAny_rule (wpAny_pure ⟨_,rfl,wpAny_pure h⟩))
end
end HT
namespace L3
open PySem PySem.Spec PyProof.Rows L2
def rSlW (K:PySem.W.Frag):V→Option Int→Option Int→Hp→VK→Prop:=fun x lo hi H Q=>∃ a xs,x=.ref a∧SqT K H a xs∧(∀ p,H p=none→Q (.ref p) (upd H p (.tup (cutV xs lo hi))))∧(cutV xs lo hi=xs→Q (.ref a) H)
theorem sl_tupW {X:Cx}:SlR X (rSlW X.K):=by
  intro pins s σ H x v vl vu lo hi sl Q I rx hs pl pu h
  obtain ⟨a,xs,rfl,hx,q1,q2⟩:=h
  by_cases hw:HT.sIx xs.length 0 lo=0∧HT.sIx xs.length xs.length hi=xs.length
  · cases rx
    obtain ⟨its,r,ht,hz⟩:=I.tuple hx
    have hlen:its.toArray.size=xs.length:=by rw [List.size_toArray]; exact r.length.symm
    refine ⟨"tuple",_,PyProof.Rows.slot_tuple_getitem.lookup,ht.typeIs,?_⟩
    refine HT.getItem_tuple_whole ht hs pl pu (by rw [hlen]; exact hw.1) (by rw [hlen]; exact hw.2) ⟨.ref a,H,I,rfl,q2 ?_⟩
    unfold cutV
    rw [hw.1,hw.2,List.drop_zero,Nat.sub_zero,List.take_length]
  · exact sl_tup pins s σ H _ v vl vu lo hi sl Q I rx hs pl pu ⟨a,xs,rfl,hx,hw,q1⟩
theorem cutV_from (xs:List V) (k:Nat):cutV xs (some (k:Int)) none=xs.drop k:=by
  unfold cutV
  rw [HT.sIx_none,HT.sIx_nat]
  by_cases h:k≤xs.length
  · rw [Nat.min_eq_left h]
    exact List.take_of_length_le (by rw [List.length_drop]; omega)
  · rw [Nat.min_eq_right (by omega),List.drop_eq_nil_of_le (Nat.le_refl _),List.drop_eq_nil_of_le (show xs.length≤k by omega)]
    simp
theorem cutV_to (xs:List V) (k:Nat):cutV xs none (some (k:Int))=xs.take k:=by
  unfold cutV
  rw [HT.sIx_none,HT.sIx_nat,List.drop_zero,Nat.sub_zero]
  by_cases h:k≤xs.length
  · rw [Nat.min_eq_left h]
  · rw [Nat.min_eq_right (by omega),List.take_of_length_le (Nat.le_refl _),List.take_of_length_le (show xs.length≤k by omega)]
end L3
end
section
namespace L3
open PySem PySem.Spec PyProof.Rows L2
section
variable {X:Cx} {K:PySem.W.Frag}
theorem call_isinstK (hK:X.K=K:=by rfl):CallR X (.builtin "isinstance") (fun xs H Q=>∃ x t n b,xs=[x,.ty n]∧TyOf K H x t∧PySem.W.kitOne K t (.type n)=some b∧Q (.bl b) H):=by subst hK; exact call_isinst
theorem ix_listK (hK:X.K=K:=by rfl):IxR X (rIxL K):=by subst hK; exact ix_list
theorem ix_tupK (hK:X.K=K:=by rfl):IxR X (rIxT K):=by subst hK; exact ix_tup
end
end L3
end
section
namespace L3
open PySem PySem.Spec PyProof.Rows L2
def maxN:List Nat→Nat
  | []=>0
  | a::r=>max a (maxN r)
end L3
end
section
namespace L3
open PySem PySem.Spec L2
variable {K:PySem.W.Frag}
def SqK (K:PySem.W.Frag) (a:Addr) (xs:List V):Prop:=∃ (o:Obj) (its:Array Value) (n:Nat),K.lookup a=some o∧o.cls=.type "tuple" ∧ o.data=.seq its n∧its.size≤sizeLine∧Vals xs its.toList
structure KD (K:PySem.W.Frag) (a:Addr) (rows:List (Str×List V)) (as:List Addr):Prop where
  len:as.length=rows.length
  tab:TabK K a ((rows.zip as).map fun p=>(p.1.1,V.ref p.2))
  sq:∀ p∈rows.zip as,SqK K p.2 p.1.2
theorem datum_zip {α β:Type} {x:Str} (f:(Str×α)×β→V):∀ (rows:List (Str×α)) (as:List β),as.length=rows.length →
    (∃ r a,(r,a)∈rows.zip as∧r.1=x∧rows.lookup x=some r.2∧PyProof.Rows.KTD.datumAt x ((rows.zip as).map fun p=>(p.1.1,f p))=some (f (r,a))) ∨
    (rows.lookup x=none∧PyProof.Rows.KTD.datumAt x ((rows.zip as).map fun p=>(p.1.1,f p))=none)
  | [],_,_=>.inr ⟨rfl,rfl⟩
  | (k,v)::rows,[],h=>by simp at h
  | (k,v)::rows,a::as,h=>by
    have ih:=datum_zip (x:=x) f rows as (by simpa using h)
    by_cases e:x=k
    · subst e
      exact .inl ⟨(x,v),a,List.mem_cons_self,rfl,by simp [List.lookup],by simp [PyProof.Rows.KTD.datumAt]⟩
    · have e1:(x==k)=false:=by simpa using e
      have e2:¬ k=x:=fun z=>e z.symm
      rcases ih with ⟨r,b,h1,h2,h3,h4⟩ | ⟨h1,h2⟩
      · exact .inl ⟨r,b,List.mem_cons_of_mem _ h1,h2,by rw [List.lookup_cons,e1]; exact h3,by simp only [List.zip_cons_cons,List.map_cons,PyProof.Rows.KTD.datumAt,e,decide_false,Bool.false_eq_true,if_false]; exact h4⟩
      · exact .inr ⟨by rw [List.lookup_cons,e1]; exact h1,by simp only [List.zip_cons_cons,List.map_cons,PyProof.Rows.KTD.datumAt,e,decide_false,Bool.false_eq_true,if_false]; exact h2⟩
theorem KD.some {a:Addr} {rows:List (Str×List V)} {as:List Addr} (T:KD K a rows as) {x:Str} {ds:List V} (h:rows.lookup x=Option.some ds):∃ b,PyProof.Rows.KTD.datumAt x ((rows.zip as).map fun p=>(p.1.1,V.ref p.2))=Option.some (.ref b)∧∀ H,SqT K H b ds:=by
  rcases datum_zip (x:=x) (fun p=>V.ref p.2) rows as T.len with ⟨r,b,h1,h2,h3,h4⟩ | ⟨h1,_⟩
  · rw [h] at h3
    cases h3
    exact ⟨b,h4,fun H=>.inr (T.sq _ h1)⟩
  · rw [h] at h1; cases h1
def valsChk:List V→List Value→Bool
  | [],[]=>true
  | .str x::vs,.str y _::us=>decide (x=y) && valsChk vs us
  | .int i::vs,.int j _::us=>decide (i=j) && valsChk vs us
  | _,_=>false
theorem valsChk_ok:∀ {vs:List V} {us:List Value},valsChk vs us=true→Vals vs us
  | [],[],_=>.nil
  | .str x::vs,.str y t::us,h=>by
    simp only [valsChk,Bool.and_eq_true,decide_eq_true_eq] at h
    obtain ⟨rfl,h⟩:=h
    exact .cons ⟨t,rfl⟩ (valsChk_ok h)
  | .int x::vs,.int y t::us,h=>by
    simp only [valsChk,Bool.and_eq_true,decide_eq_true_eq] at h
    obtain ⟨rfl,h⟩:=h
    exact .cons ⟨t,rfl⟩ (valsChk_ok h)
  | [],_::_,h=>by simp [valsChk] at h
  | _::_,[],h=>by simp [valsChk] at h
  | .non::_,_::_,h=>by simp [valsChk] at h
  | .bl _::_,_::_,h=>by simp [valsChk] at h
  | .byt _::_,_::_,h=>by simp [valsChk] at h
  | .flt _::_,_::_,h=>by simp [valsChk] at h
  | .ref _::_,_::_,h=>by simp [valsChk] at h
  | .ty _::_,_::_,h=>by simp [valsChk] at h
  | .str _::_,.none::_,h=>by simp [valsChk] at h
  | .str _::_,.int _ _::_,h=>by simp [valsChk] at h
  | .str _::_,.ref _::_,h=>by simp [valsChk] at h
  | .str _::_,.bool _::_,h=>by simp [valsChk] at h
  | .str _::_,.float _ _::_,h=>by simp [valsChk] at h
  | .str _::_,.bytes _ _::_,h=>by simp [valsChk] at h
  | .str _::_,.type _::_,h=>by simp [valsChk] at h
  | .str _::_,.builtin _::_,h=>by simp [valsChk] at h
  | .str _::_,.ellipsis::_,h=>by simp [valsChk] at h
  | .str _::_,.notImplemented::_,h=>by simp [valsChk] at h
  | .int _::_,.none::_,h=>by simp [valsChk] at h
  | .int _::_,.str _ _::_,h=>by simp [valsChk] at h
  | .int _::_,.ref _::_,h=>by simp [valsChk] at h
  | .int _::_,.bool _::_,h=>by simp [valsChk] at h
  | .int _::_,.float _ _::_,h=>by simp [valsChk] at h
  | .int _::_,.bytes _ _::_,h=>by simp [valsChk] at h
  | .int _::_,.type _::_,h=>by simp [valsChk] at h
  | .int _::_,.builtin _::_,h=>by simp [valsChk] at h
  | .int _::_,.ellipsis::_,h=>by simp [valsChk] at h
  | .int _::_,.notImplemented::_,h=>by simp [valsChk] at h
def seqChk (vs:List V) (its:Array Value):Bool:=valsChk vs its.toList && decide (its.size≤100)
theorem sqk_mk {K:PySem.W.Frag} {a:Addr} {d:Option Addr} {its:Array Value} {n:Nat} {sl:Array (Option Value)} {vs:List V} (h:K.lookup a=some ⟨.type "tuple",d,.seq its n,sl⟩) (c:seqChk vs its=true):SqK K a vs:=by
  simp only [seqChk,Bool.and_eq_true,decide_eq_true_eq] at c
  exact ⟨_,its,n,h,rfl,rfl,Nat.le_trans c.2 (by decide),valsChk_ok c.1⟩
def rowsChk : List DictEntry → List Str → Bool
  | [],[]=>true
  | e::es,k::ks=>(match e.key,e.val with
    | .str x _,.ref _=>decide (x=k)
    | _,_=>false) && rowsChk es ks
  | _,_=>false
def refsOf (es:List DictEntry):List Addr:=es.map fun e=>match e.val with
  | .ref a=>a
  | _=>0
theorem rows_of : ∀ {es : List DictEntry} {ks : List Str}, rowsChk es ks = true → PyProof.Rows.KTD.Rows RelV es ((ks.zip (refsOf es)).map fun p => (p.1, V.ref p.2))
  | [],[],_=>.nil
  | [],_::_,h=>by simp [rowsChk] at h
  | _::_,[],h=>by simp [rowsChk] at h
  | e :: es, k :: ks, h => by
    obtain ⟨hs,key,val⟩:=e
    rw [rowsChk,Bool.and_eq_true] at h
    cases key with
    | str x t =>
      cases val with
      | ref b =>
        have h1:x=k:=by simpa using h.1
        subst h1
        exact .cons rfl rfl (rows_of h.2)
      | _=>simp at h
    | _=>simp at h
theorem kd_mk {a:Addr} {es:Array DictEntry} {ep:Nat} {rows:List (Str×List V)} {as:List Addr} (sy:(a==sysModules)=false) (lk:K.lookup a=some ⟨.type "dict",none,.dict es ep,#[]⟩) (ks:rowsChk es.toList (rows.map (·.1))=true)
    (rf:refsOf es.toList=as) (hl:as.length=rows.length) (sq:∀ p∈rows.zip as,SqK K p.2 p.1.2):KD K a rows as:=by
  refine ⟨hl,⟨sy,_,es,ep,lk,⟨rfl,rfl,rfl⟩,rfl,?_⟩,sq⟩
  have h:=rows_of ks
  rw [rf,List.zip_map_left,List.map_map] at h
  exact h
theorem sq_cons {r:Str×List V} {b:Addr} {rows:List (Str×List V)} {as:List Addr} (h:SqK K b r.2) (t:∀ p∈rows.zip as,SqK K p.2 p.1.2):∀ p∈(r::rows).zip (b::as),SqK K p.2 p.1.2:=fun p hp=>by
  rcases List.mem_cons.mp hp with rfl | hp
  · exact h
  · exact t p hp
theorem sq_nil:∀ p∈([]:List (Str×List V)).zip ([]:List Addr),SqK K p.2 p.1.2:=fun p hp=>by simp at hp
def intRows : List DictEntry → List (Str × Int) → Bool
  | [],[]=>true
  | e::es,(k,i)::ks=>(match e.key,e.val with
    | .str x _,.int j _=>decide (x=k) && decide (j=i)
    | _,_=>false) && intRows es ks
  | _,_=>false
theorem introws_of : ∀ {es : List DictEntry} {ks : List (Str × Int)}, intRows es ks = true → PyProof.Rows.KTD.Rows RelV es (ks.map fun p => (p.1, V.int p.2))
  | [],[],_=>.nil
  | [],_::_,h=>by simp [intRows] at h
  | _::_,[],h=>by simp [intRows] at h
  | e :: es, (k, i) :: ks, h => by
    obtain ⟨hs,key,val⟩:=e
    rw [intRows,Bool.and_eq_true] at h
    cases key with
    | str x t =>
      cases val with
      | int b u =>
        have h1:x=k∧b=i:=by simpa using h.1
        obtain ⟨rfl,rfl⟩:=h1
        exact .cons rfl ⟨u,rfl⟩ (introws_of h.2)
      | _=>simp at h
    | _=>simp at h
theorem tabi_mk {a:Addr} {es:Array DictEntry} {ep:Nat} {rows:List (Str×Int)} (sy:(a==sysModules)=false) (lk:K.lookup a=some ⟨.type "dict",none,.dict es ep,#[]⟩) (ks:intRows es.toList rows=true):TabK K a (rows.map fun p=>(p.1,V.int p.2)) :=
  ⟨sy,_,es,ep,lk,⟨rfl,rfl,rfl⟩,rfl,introws_of ks⟩
end L3
end
section
namespace L3
open PySem PySem.Spec PyProof.Rows L2
structure MadeX (h h':Heap) (e C:Addr) (hh:Option Value):Prop where
  keeps:∀ b o,h.get? b=some o→h'.get? b=some o
  new:h.get? e=none
  there:∃ oe vs t c,h'.get? e=some oe∧oe.cls=.ref C∧oe.data=.fields vs∧vs[0]?=some (.ref t)∧vs[1]?=some .none∧vs[2]?=some c∧(hh=none→c=.none)
section
variable {prog:Program} {w:World} {A:Around} {E:Value→Shared→Prop} {s:Shared}
theorem raise_new {α:Type} {Q:α→Shared→Prop} {h₀:Heap} {e C:Addr} {vs:List Value} (hb:HB h₀ A) (hm:Heap.MadeExcOf h₀ s.heap e (.ref C) vs) (hE:∀ h',MadeX h₀ h' e C A.handled→E (.ref e) { s with heap:=h' }) :
    wpAny (model prog w) A (raiseNew (.ref e):Sem α) Q E s:=by
  obtain ⟨t,he,_,_⟩:=hm.there
  simp only [raiseNew]
  refine wpAny_bind (wpAny_handled ?_)
  rcases hb with hb | ⟨a,oe,ws,hb,e1,e2,e3⟩
  · rw [hb]
    refine wpAny_bind (wpAny_pure (wpAny_throw (hE s.heap ⟨hm.keeps,hm.new,_,_,t,_,he,rfl,rfl,rfl,rfl,rfl,fun _=>rfl⟩)))
  · rw [hb]
    have ne:a≠e:=fun z=>by rw [z,hm.new] at e1; cases e1
    dsimp only
    rw [if_pos (by simpa using ne)]
    refine wpAny_bind (wpAny_holding (un_chain (hm.keeps _ _ e1) e2 e3 ?_))
    refine wpAny_bind ?_
    show wpAny (model prog w) A (setField (.ref e) 2 (.ref a)) _ _ _
    refine wpAny_setField he rfl (by simp) (wpAny_throw (hE _ ⟨fun b o eb=>?_,hm.new,_,_,t,.ref a,Heap.get?_update_self _ he (Obj.isFreed_of_fields (Obj.data_mapFields rfl _)),Obj.cls_mapFields _ _,Obj.data_mapFields rfl _,by simp,by simp,by simp,fun z=>by rw [hb] at z; cases z⟩))
    rw [Heap.get?_update_other _ _ fun z=>by rw [← z,hm.new] at eb; cases eb]
    exact hm.keeps b o eb
end
def ExcK (K:PySem.W.Frag) (C:Addr):Prop:=∃ bmB newId initId,ExcBaseFacts "ValueError" newId initId bmB∧PySem.W.excIn K C bmB newId=true
theorem excK_obj {K:PySem.W.Frag} {h:Heap} {C:Addr} {bmB:List Value} {newId:String} (X:K.In h) (q:PySem.W.excIn K C bmB newId=true) :
    ∃ bm N nm qn bs hdct sn sub ab col dd k0 k1 k2 k3 k5 mN,h.get? C=some (excClassObj nm qn C N bs bm hdct sn sub ab col dd k0 k1 k2 k3 k5 newId)∧h.Ns N mN∧mN "__init__" = none∧OwnTail h bmB bm:=by
  unfold PySem.W.excIn at q
  split at q
  · rename_i dd cd sl ho
    split at q
    · rename_i C' bm k0 k1 k2 k3 n k5 hm hs
      simp only [Bool.and_eq_true,beq_iff_eq,Bool.not_eq_true'] at q
      obtain ⟨⟨⟨⟨⟨rfl,rfl⟩,hdel⟩,ht⟩,hok⟩,hni⟩:=q
      obtain ⟨nm,bs,mro,ns,qn,hd,sn,sub,ab,col,del⟩:=cd
      dsimp only at hm hdel hok hni
      subst hm hdel
      have hsl:sl=#[k0,k1,k2,k3,some (.builtin n),k5]:=by
        obtain ⟨l⟩:=sl
        simp only at hs
        rw [hs]
      subst hsl
      exact ⟨bm,ns,nm,qn,bs,hd,sn,sub,ab,col,dd,k0,k1,k2,k3,k5,_,X _ _ ho,.of_isNs (PySem.W.isNs_of_in X hok),PySem.W.nsMap_none_of_in X hok hni,PySem.W.tail_of_in X ht⟩
    · cases q
  · cases q
def tRaise (G:Hp→Prop) (t:TA):TS:=fun D σ H=>t σ H fun vs H1=>vs.length≤100∧G H1
theorem ps_raise {X:Cx} {G:Hp→Prop} {x:Str} {C:Addr} {e₀:Expr} {t:TA} {np cpos pos:Pos} (hK:ExcK X.K C) (hm:X.mg x=some (.ref C)) (ha:PA X [e₀] t)
    (hxe:∀ pins σ H s e h',Inv X pins σ H s→MadeX s.heap h' e C X.A.handled→G H→X.xe (.ref e) { s with heap:=h' }) (hc:X.calm=true:=by rfl) (hg:Gl X x:=by rfl) (hdb:(x==("__debug__" : Str))=false:=by decide)
    (he:starEach [e₀] X.env=[(false,eval e₀ X.env)]:=by rfl):PS X (.Raise (some (.Call (.Name x np) [e₀] [] cpos)) none pos) (tRaise G t):=by
  intro pins s σ H D I h
  obtain ⟨bmB,newId,initId,FB,q⟩:=hK
  have key:wpAny (model X.prog X.w) X.A (eval (.Call (.Name x np) [e₀] [] cpos) X.env) (fun v s₁=>∃ e t h₀ vs,v=.ref e∧X.K.In s₁.heap ∧
      s₁.heap.get? e=some { cls:=.ref C,data:=.fields #[.ref t,.none,.none,.none,.bool false,.none] }∧HB h₀ X.A∧Heap.MadeExcOf h₀ s₁.heap e (.ref C) vs∧∀ h',MadeX h₀ h' e C X.A.handled→X.xe (.ref e) { s₁ with heap:=h' }) X.xe s:=by
    refine wpAny_Call_Name_kw (ld_glob I hg hm ?_ hdb)
    have hpa:=ha cpos pins s σ H _ I h
    rw [he] at hpa ⊢
    unfold callWith
    refine wpAny_bind (wpAny_holding (Calls.evalArgs_plain (thn hpa fun us s1 ⟨vs,H1,I1,r,hl,g⟩=>wpAny_bind (wpAny_standAt ?_))))
    obtain ⟨bm,N,nm,qn,bs,hdct,sn,sub,ab,col,dd,k0,k1,k2,k3,k5,mN,hC,hN,hni,T⟩:=excK_obj I1.kIn q
    have hb:=I1.hb hc
    have hx:=hxe pins σ H1 s1
    have kin:=I1.kIn
    obtain ⟨hp,gn,d,tk,os⟩:=s1
    show wpAny _ _ (keeperOf (.ref C) >>= _) _ _ _
    refine wpAny_bind (wpAny_keeperOf_exc hC ?_)
    refine wpAny_bind (wpAny_call_exc_subT (hrest:=by rw [List.nil_append,← r.length]; exact Nat.le_trans hl (by decide)) FB T hC hN hni fun h' e hm'=>wpAny_bind (wpAny_holding (wpAny_point (wpAny_pure ?_))))
    obtain ⟨t,ht,_,_⟩:=hm'.there
    exact ⟨e,t,hp,_,rfl,kin.keeps hm'.keeps,ht,hb,hm',fun h'' mx=>hx e h'' I1 mx g⟩
  rw [arm_exec_Raise]
  refine wpAny_bind (wpAny_standAt ?_)
  unfold raiseStmt
  refine wpAny_bind (wpAny_bind (thn key fun v s₁ h₁=>wpAny_bind (wpAny_standAt (wpAny_pure ?_))))
  obtain ⟨e,t,h₀,vs,rfl,kin,he',hb,hm',hE⟩:=h₁
  obtain ⟨bm,N,nm,qn,bs,hdct,sn,sub,ab,col,dd,k0,k1,k2,k3,k5,mN,hC,hN,hni,T⟩:=excK_obj kin q
  have hcB:(Value.ref C::bm).contains (.type "BaseException")=true:=by rw [List.contains_cons,T.hasType FB.hasBase,Bool.or_true]
  obtain ⟨hp,gn,d,tk,os⟩:=s₁
  repeat (first | with_reducible refine wpAny_loadPart_at he' ?_ | with_reducible refine wpAny_loadPart_at hC ?_ | (with_reducible refine wpAny_isSubtype_exc hC ?_; rw [hcB]) | wp_step)
  exact raise_new hb hm' hE
end L3
end
section
namespace L3
open PySem PySem.Spec PyProof.Rows L2
def Ex (h:Heap) (a C:Addr) (T c:Value):Prop:=∃ oe vs a0,h.get? a=some oe∧oe.cls=.ref C∧oe.data=.fields vs∧vs[0]?=some a0∧vs[1]?=some T∧vs[2]?=some c
def Tb (h:Heap) (T:Addr) (fl:Value):Prop:=∃ oT ts,h.get? T=some oT∧oT.data=.fields ts∧ts[3]?=some fl
structure Stp (fs:List Addr) (xs:List Addr) (h h':Heap):Prop where
  keep:∀ b o,h.get? b=some o→b∉fs→b∉xs→h'.get? b=some o
  slot:∀ b o,h.get? b=some o→b∈fs→b∉xs→∃ sl,h'.get? b=some { o with slots:=sl }
section
variable {M:Model} {A:Around} {E:Value→Shared→Prop} {s:Shared}
theorem fs_ne {base:Heap} {l:List Env} {b:Addr} {o:Obj} {vs:Array Value} (hl:s.heap.FunFrames base l) (e:s.heap.get? b=some o) (d:o.data=.fields vs):b∉frs l:=fun hm=>by
  obtain ⟨_,o',ho,nf⟩:=hl.mem hm
  rw [e] at ho
  cases ho
  exact nf vs d
theorem entry_new {base:Heap} {env:Env} {outer:List Env} {L a C:Addr} {head T c:Value} {hadNext:Bool} {Q:Unit→Shared→Prop} (hfr:A.frames=some (env::outer)) (hl:s.heap.FunFrames base (env::outer)) (hf:env.frame=some L) (x:Ex s.heap a C T c)
    (h:∀ h' T',Ex h' a C (.ref T') c→Tb h' T' (rawInt L)→s.heap.get? T'=none→T'≠a→Stp (frs (env::outer)) [a] s.heap h'→Q () { s with heap:=h' }) :
    wpAny M A (do let f ← frameOf env; let pl ← entryPlaceOf L hadNext; let b ← EntryCells.newEntry head f .none (rawInt L) .none pl; setField (.ref a) 1 b) Q E s:=by
  obtain ⟨oe,vs,a0,he,hc,hd,h0,h1,h2⟩:=x
  have hne:a∉frs (env::outer):=fs_ne hl he hd
  refine wpAny_bind (wpAny_frameOf_fun hfr hl hf fun k1 hs=>wpAny_bind (wpAny_entryPlaceOf fun pl hpl=>?_))
  unfold EntryCells.newEntry newFields
  refine wpAny_bind (wpAny_newObj_type ?_ (hpl.sizeOk5 _ _ _ _ _))
  have he1:k1.get? a=some oe:=(hs.2.1 a hne).trans he
  have sz:k1.objs.size=s.heap.objs.size:=hs.1
  have nT:k1.objs.size≠a:=Nat.ne_of_gt (Heap.lt_size he1)
  refine wpAny_setField (Heap.get?_push_of_some _ he1) hd (Array.getElem?_eq_some_iff.mp h1).1 (h _ k1.objs.size ?_ ?_ ?_ nT ?_)
  · refine ⟨_,_,a0,Heap.get?_update_self _ (Heap.get?_push_of_some _ he1) (Obj.isFreed_of_fields (Obj.data_mapFields hd _)),(Obj.cls_mapFields _ _).trans hc,Obj.data_mapFields hd _,?_,?_,?_⟩
    · rw [Array.getElem?_setIfInBounds_ne (by decide)]; exact h0
    · have:=(Array.getElem?_eq_some_iff.mp h1).1
      simp [this]
    · rw [Array.getElem?_setIfInBounds_ne (by decide)]; exact h2
  · refine ⟨_,_,(Heap.get?_update_other _ _ (Ne.symm nT)).trans (Heap.get?_push_size _ rfl),rfl,?_⟩
    first | (simp; done) | (rcases hpl with rfl | ⟨_,_,_,_,_,_,_,rfl⟩ <;> simp)
  · rw [sz]
    exact Heap.get?_none_of_le (Nat.le_refl _)
  · refine ⟨fun b o e n m=>?_,fun b o e n m=>?_⟩
    · have e1:k1.get? b=some o:=(hs.2.1 b n).trans e
      rw [Heap.get?_update_other _ _ fun z=>m (by simp [z])]
      exact Heap.get?_push_of_some _ e1
    · obtain ⟨sl,e1⟩:=hs.2.2 b o e
      refine ⟨sl,?_⟩
      rw [Heap.get?_update_other _ _ fun z=>m (by simp [z])]
      exact Heap.get?_push_of_some _ e1
theorem note_first {base:Heap} {env:Env} {outer:List Env} {L a C:Addr} {c:Value} {Q:Unit→Shared→Prop} (hfr:A.frames=some (env::outer)) (hl:s.heap.FunFrames base (env::outer)) (hf:env.frame=some L) (x:Ex s.heap a C .none c)
    (h:∀ h' T',Ex h' a C (.ref T') c→Tb h' T' (rawInt L)→s.heap.get? T'=none→T'≠a→Stp (frs (env::outer)) [a] s.heap h'→Q () { s with heap:=h' }):wpAny M A (noteFrame (.ref a) env) Q E s:=by
  obtain ⟨oe,vs,a0,he,hc,hd,h0,h1,h2⟩:=id x
  unfold noteFrame
  simp only [hf]
  refine wpAny_bind (wpAny_field he hd h1 ?_)
  rw [if_neg (by decide)]
  exact entry_new hfr hl hf x h
theorem note_next {base:Heap} {env:Env} {outer:List Env} {L a C T:Addr} {c:Value} {Q:Unit→Shared→Prop} (hfr:A.frames=some (env::outer)) (hl:s.heap.FunFrames base (env::outer)) (hf:env.frame=some L) (x:Ex s.heap a C (.ref T) c) (y:Tb s.heap T .none) (hTa:T≠a)
    (h:∀ h' T',Ex h' a C (.ref T') c→Tb h' T' (rawInt L)→s.heap.get? T'=none→T'≠a→Stp (frs (env::outer)) [a,T] s.heap h'→Q () { s with heap:=h' }):wpAny M A (noteFrame (.ref a) env) Q E s:=by
  obtain ⟨oe,vs,a0,he,hc,hd,h0,h1,h2⟩:=id x
  obtain ⟨oT,ts,hT,dT,h3⟩:=y
  unfold noteFrame
  simp only [hf]
  refine wpAny_bind (wpAny_field he hd h1 ?_)
  rw [if_pos (show (Value.ref T != Value.none)=true from by simp)]
  refine wpAny_bind (wpAny_field hT dT h3 ?_)
  rw [if_neg (show ¬ ((Value.none==rawInt L)=true) from by simp [rawInt])]
  refine wpAny_bind (wpAny_setField hT dT (Array.getElem?_eq_some_iff.mp h3).1 ?_)
  have oth:∀ b,b≠T→(s.heap.update T (Obj.mapFields (·.setIfInBounds 3 Value.none))).get? b=s.heap.get? b:=fun b hb=>Heap.get?_update_other _ _ (Ne.symm hb)
  have nr:∀ b o,s.heap.get? b=some o→(∀ vs,o.data≠.fields vs)→b≠T:=fun b o hb nf q=>by
    rw [q,hT] at hb
    cases hb
    exact nf ts dT
  refine entry_new (s:={ s with heap:=s.heap.update T (Obj.mapFields (·.setIfInBounds 3 Value.none)) }) hfr (hl.of_keeps fun b o hb nf=>⟨o,(oth b (nr b o hb nf)).trans hb,rfl⟩) hf ⟨oe,vs,a0,(oth a (Ne.symm hTa)).trans he,hc,hd,h0,h1,h2⟩ fun h' T' x1 x2 x3 x4 x5=>h h' T' x1 x2 ?_ x4 ⟨fun b o e n m=>?_,fun b o e n m=>?_⟩
  · by_cases z:T'=T
    · rw [z] at x3
      have:=Heap.get?_update_self (Obj.mapFields (·.setIfInBounds 3 Value.none)) hT (Obj.isFreed_of_fields (Obj.data_mapFields dT _))
      rw [x3] at this
      cases this
    · rw [← oth T' z]; exact x3
  · exact x5.keep b o ((oth b fun z=>m (by simp [z])).trans e) n fun z=>m (by simp at z; simp [z])
  · exact x5.slot b o ((oth b fun z=>m (by simp [z])).trans e) n fun z=>m (by simp at z; simp [z])
theorem flight_none {a C T:Addr} {c fl:Value} {Q:Unit→Shared→Prop} (x:Ex s.heap a C (.ref T) c) (y:Tb s.heap T fl) (hTa:T≠a)
    (h:∀ h',Ex h' a C (.ref T) c→Tb h' T .none→(∀ b,b≠T→h'.get? b=s.heap.get? b)→Q () { s with heap:=h' }):wpAny M A (setFlight (.ref a) none) Q E s:=by
  obtain ⟨oe,vs,a0,he,hc,hd,h0,h1,h2⟩:=x
  obtain ⟨oT,ts,hT,dT,h3⟩:=y
  have l3:=(Array.getElem?_eq_some_iff.mp h3).1
  unfold setFlight
  refine wpAny_bind (wpAny_field he hd h1 ?_)
  rw [if_pos (show (Value.ref T != Value.none)=true from by simp)]
  have oth:∀ b,b≠T→(s.heap.update T (Obj.mapFields (·.setIfInBounds 3 ((none:Option Addr).elim Value.none fun f=>rawInt f)))).get? b=s.heap.get? b:=fun b hb=>Heap.get?_update_other _ _ (Ne.symm hb)
  exact wpAny_setField hT dT l3 (h _ ⟨oe,vs,a0,(oth a (Ne.symm hTa)).trans he,hc,hd,h0,h1,h2⟩ ⟨_,_,Heap.get?_update_self _ hT (Obj.isFreed_of_fields (Obj.data_mapFields dT _)),Obj.data_mapFields dT _,by simp [l3]⟩ oth)
theorem leave_first {base:Heap} {env:Env} {outer:List Env} {L a C:Addr} {c:Value} {Q:Unit→Shared→Prop} (hfr:A.frames=some (env::outer)) (hl:s.heap.FunFrames base (env::outer)) (hf:env.frame=some L) (x:Ex s.heap a C .none c)
    (h:∀ h' T',Ex h' a C (.ref T') c→Tb h' T' .none→s.heap.get? T'=none→T'≠a→Stp (frs (env::outer)) [a] s.heap h'→Q () { s with heap:=h' }):wpAny M A (leaving env (.ref a)) Q E s:=by
  unfold leaving
  refine wpAny_bind (note_first hfr hl hf x fun h1 T1 x1 y1 n1 m1 p1=>flight_none (s:={ s with heap:=h1 }) x1 y1 m1 fun h2 x2 y2 o2=>h h2 T1 x2 y2 n1 m1 ?_)
  refine ⟨fun b o e n m=>(o2 b fun z=>by rw [z,n1] at e; cases e).trans (p1.keep b o e n m),fun b o e n m=>?_⟩
  obtain ⟨sl,q⟩:=p1.slot b o e n m
  exact ⟨sl,(o2 b fun z=>by rw [z,n1] at e; cases e).trans q⟩
theorem leave_next {base:Heap} {env:Env} {outer:List Env} {L a C T:Addr} {c:Value} {Q:Unit→Shared→Prop} (hfr:A.frames=some (env::outer)) (hl:s.heap.FunFrames base (env::outer)) (hf:env.frame=some L) (x:Ex s.heap a C (.ref T) c) (y:Tb s.heap T .none) (hTa:T≠a)
    (h:∀ h' T',Ex h' a C (.ref T') c→Tb h' T' .none→s.heap.get? T'=none→T'≠a→Stp (frs (env::outer)) [a,T] s.heap h'→Q () { s with heap:=h' }):wpAny M A (leaving env (.ref a)) Q E s:=by
  unfold leaving
  refine wpAny_bind (note_next hfr hl hf x y hTa fun h1 T1 x1 y1 n1 m1 p1=>flight_none (s:={ s with heap:=h1 }) x1 y1 m1 fun h2 x2 y2 o2=>h h2 T1 x2 y2 n1 m1 ?_)
  refine ⟨fun b o e n m=>(o2 b fun z=>by rw [z,n1] at e; cases e).trans (p1.keep b o e n m),fun b o e n m=>?_⟩
  obtain ⟨sl,q⟩:=p1.slot b o e n m
  exact ⟨sl,(o2 b fun z=>by rw [z,n1] at e; cases e).trans q⟩
end
end L3
end
section
namespace L3
open PySem PySem.Spec PyProof.Rows L2
theorem objOk_some {P:Program} {w:World} {H:Hp} {h:Heap} {a:Addr} {o:HO} (x:ObjOk P w H h a o):∃ u,h.get? a=some u:=by
  cases o with
  | lst xs=>obtain ⟨_,_,_,_,e⟩:=x; exact ⟨_,e⟩
  | tup xs=>obtain ⟨_,_,_,o,e,_⟩:=x; exact ⟨_,e⟩
  | dK kvs=>obtain ⟨_,_,_,_,o,_,_,e,_⟩:=x; exact ⟨_,e⟩
  | dT kvs=>obtain ⟨_,_,_,_,o,_,_,e,_⟩:=x; exact ⟨_,e⟩
  | set S n=>obtain ⟨o,_,_,_,e,_⟩:=x; exact ⟨_,e⟩
  | ins C dx fs=>obtain ⟨_,_,_,e,_⟩:=x; exact ⟨_,e⟩
  | own y=>exact x
  | xd fs=>obtain ⟨_,⟨_,_,_,e,_⟩,_⟩:=x; exact ⟨_,e⟩
  | rng lo hi=>obtain ⟨_,_,_,e⟩:=x; exact ⟨_,e⟩
  | frz ob u=>obtain ⟨e,_⟩:=x; exact ⟨_,e⟩
  | tbl ps=>cases ps with
    | tab q ln cl=>rcases x with e | ⟨c,e,_⟩ <;> exact ⟨_,e⟩
    | code q=>obtain ⟨c,o,vs,t,e1,e2,_⟩:=x; cases e1; exact ⟨_,e2⟩
  | met f y=>exact ⟨_,show h.get? a=some _ from x⟩
  | ext φ=>obtain ⟨_,e,_⟩:=x; exact e
theorem hok_none {P:Program} {w:World} {H:Hp} {h:Heap} {a:Addr} (x:HOk P w H h) (e:h.get? a=none):H a=none:=by
  cases q:H a with
  | none=>rfl
  | some o =>
    obtain ⟨u,z⟩:=objOk_some (x a o q)
    rw [e] at z; cases z
theorem Stp.any {fs xs:List Addr} {h h':Heap} (p:Stp fs xs h h') {b:Addr} {o:Obj} (e:h.get? b=some o) (m:b∉xs):∃ sl,h'.get? b=some { o with slots:=sl }:=by
  by_cases hb:b∈fs
  · exact p.slot b o e hb m
  · exact ⟨o.slots,p.keep b o e hb m⟩
theorem hok_stp {P:Program} {w:World} {H:Hp} {h h':Heap} {fs xs:List Addr} (x:HOk P w H h) (p:Stp fs xs h h') (nf:∀ b∈fs,H b=none) (nx:∀ b∈xs,H b=none):HOk P w H h':=fun a o e=>by
  have st:∀ b u,H b≠none→h.get? b=some u→h'.get? b=some u:=fun b u n q=>p.keep b u q (fun z=>n (nf b z)) fun z=>n (nx b z)
  refine (x a o e).stay (fun b u hb q=>st b u ?_ q) (fun _ q=>q) fun _ _ q=>q
  rcases hb with z | z
  · rw [z,e]; simp
  · rw [z]; simp
structure Fre (X:Cx) (pins:List (Addr×Obj)) (H:Hp) (b:Addr):Prop where
  un:H b=none
  new:X.s₀.heap.get? b=none
  loc:b≠X.env.locals
  cel:∀ x c,X.env.cells.lookup x=some c→c≠b
  pin:∀ p∈X.pn++pins,p.1≠b
section
variable {X:Cx} {pins:List (Addr×Obj)} {σ:L2.St} {H H':Hp} {s s':Shared} {h':Heap} {a:Addr}
theorem fre_new (I:Inv X pins σ H s) (e:s.heap.get? a=none) (hx:a∉X.ex) (hn:H' a=none):Fre X pins H' a:=by
  refine ⟨hn,?_,fun z=>?_,fun x c q z=>?_,fun p hp z=>?_⟩
  · cases q:X.s₀.heap.get? a with
    | none=>rfl
    | some o =>
      obtain ⟨o',z⟩:=I.base.there a o q hx
      rw [e] at z; cases z
  · obtain ⟨m,⟨o,_,_,ho,_⟩,_⟩:=I.loc
    rw [← z,e] at ho; cases ho
  · obtain ⟨v,o,ho,_⟩:=I.cell x c q
    rw [z,e] at ho; cases ho
  · have:=(I.pin p hp).1
    rw [z,e] at this; cases this
theorem Inv.stp {ch:List Addr} (I:Inv X pins σ H s) (p:Stp (frs X.stack) ch s.heap h') (hc:∀ b∈ch,Fre X pins H b):Inv X pins σ H { s with heap:=h' }:=by
  have nch:∀ b o,X.s₀.heap.get? b=some o→b∉ch:=fun b o e z=>by rw [(hc b z).new] at e; cases e
  have nst:∀ b o,X.s₀.heap.get? b=some o→b∉X.fs→b∉frs X.stack:=fun b o e hb z=>by
    rcases List.mem_cons.mp (I.stkSub b z) with q | q
    · have:=Heap.lt_size e
      rw [q] at this
      exact absurd this (Nat.not_lt.mpr I.ok.above)
    · exact hb q
  have cellK:∀ x c,X.env.cells.lookup x=some c→∀ v,s.heap.IsCell c v→h'.IsCell c v:=fun x c e v ⟨o,ho,hd⟩=>by
    obtain ⟨sl,q⟩:=p.any ho fun z=>(hc c z).cel x c e rfl
    exact ⟨_,q,hd⟩
  refine ⟨I.ok,I.os,I.bare,⟨fun b o e n hb hx=>?_,fun b o e n hb hx=>?_,fun b o e n hx=>I.base.free b o e n hx,fun b o e hx=>?_,I.base.tups,I.base.frzs,I.base.tbls⟩,?_,fun x c e=>?_,I.free,I.freeC,fun q hq=>?_,hok_stp I.hok p I.stkFree fun b hb=>(hc b hb).un,I.len⟩
  · exact p.keep b o (I.base.keep b o e n hb hx) (nst b o e hb) (nch b o e)
  · obtain ⟨sl,e1⟩:=I.base.slot b o e n hb hx
    obtain ⟨sl',e2⟩:=p.any e1 (nch b o e)
    exact ⟨sl',e2⟩
  · obtain ⟨o',e1⟩:=I.base.there b o e hx
    obtain ⟨sl,e2⟩:=p.any e1 (nch b o e)
    exact ⟨_,e2⟩
  · obtain ⟨m,⟨o,es,ep,ho,r⟩,hl⟩:=I.loc
    obtain ⟨sl,hL⟩:=p.any ho fun z=>(hc _ z).loc rfl
    refine ⟨m,⟨_,es,ep,hL,r⟩,fun i x v e1 e2 e3=>?_⟩
    obtain ⟨u,r,l⟩:=hl i x v e1 e2 e3
    refine ⟨u,r,?_⟩
    rcases l with l | ⟨k,c,e,z⟩
    · exact .inl l
    · exact .inr ⟨k,c,e,cellK x c e _ z⟩
  · obtain ⟨v,z⟩:=I.cell x c e
    exact ⟨v,cellK x c e v z⟩
  · obtain ⟨e,n,ne,nf,d⟩:=I.pin q hq
    exact ⟨p.keep q.1 q.2 e (fun z=>(List.mem_cons.mp (I.stkSub q.1 z)).elim ne nf) fun z=>(hc q.1 z).pin q hq rfl,n,ne,nf,d⟩
end
structure Fly (X:Cx) (pins:List (Addr×Obj)) (H:Hp) (s:Shared) (a C T:Addr) (c fl:Value):Prop where
  ex:Ex s.heap a C (.ref T) c
  tb:Tb s.heap T fl
  ne:T≠a
  fa:Fre X pins H a
  fT:Fre X pins H T
def CXo (P:Program) (w:World):CXT:=fun hh outer H s E e s'=>∃ (a C T:Addr) (c:Value) (H':Hp),e=.ref a∧s'.os=s.os∧AllBare s'.gens∧Un (frs outer) [] H H' s.heap s'.heap∧HOk P w H' s'.heap ∧
  Ex s'.heap a C (.ref T) c∧(hh=none→c=.none)∧Tb s'.heap T .none∧T≠a∧H' a=none∧H' T=none∧s.heap.get? a=none∧s.heap.get? T=none∧E (.ref C) none H'
section
variable {X:Cx} {pins:List (Addr×Obj)} {σ:L2.St} {H:Hp} {s s':Shared} {E:XK} {e:Value} {hh:Option Value}
theorem fly_of (I:Inv X pins σ H s) (hx:X.ex=[]) (h:CXo X.prog X.w hh X.stack H s E e s'):∃ a C T c H',e=.ref a∧Inv X pins σ H' s'∧Fly X pins H' s' a C T c .none∧(hh=none→c=.none)∧E (.ref C) none H':=by
  obtain ⟨a,C,T,c,H',rfl,os,bare,un,hok,ex,hc,tb,ne,na,nT,fa,fT,q⟩:=h
  refine ⟨a,C,T,c,H',rfl,I.call' os un hok bare (fun b z=>absurd z (by simp)),⟨ex,tb,ne,fre_new I fa (by rw [hx]; simp) na,fre_new I fT (by rw [hx]; simp) nT⟩,hc,q⟩
end
section
variable {P:Program} {w:World} {K:PySem.W.Frag} {mg:Str→Option Value} {base:Heap} {N:List Str} {qual:Str} {sc:Scope} {f:Addr} {cd:Value} {A:Around} {outer:List Env} {s₀:Shared} {H₀:Hp} {E:XK}
theorem out_of {σ:L2.St} {H:Hp} {s:Shared} {pins:List (Addr×Obj)} {a C T:Addr} {c:Value} {h':Heap} {ch:List Addr}
    (I:Inv (cxOf (CXo P w) P w K mg base N qual sc f cd A outer s₀ H₀ E) pins σ H s) (p:Stp (frs (cxOf (CXo P w) P w K mg base N qual sc f cd A outer s₀ H₀ E).stack) ch s.heap h') (hch:∀ b∈ch,Fre (cxOf (CXo P w) P w K mg base N qual sc f cd A outer s₀ H₀ E) pins H b)
    (fa:Fre (cxOf (CXo P w) P w K mg base N qual sc f cd A outer s₀ H₀ E) pins H a) (ex:Ex h' a C (.ref T) c) (tb:Tb h' T .none) (nT:s.heap.get? T=none) (ne:T≠a) (hc:A.handled=none→c=.none) (q:E (.ref C) none H) :
    CXo P w A.handled outer H₀ s₀ E (.ref a) { s with heap:=h' }:=by
  have J:=Inv.stp I p hch
  exact ⟨a,C,T,c,H,rfl,J.os,J.bare,J.base,J.hok,ex,hc,tb,ne,fa.un,hok_none I.hok nT,fa.new,(fre_new (H':=H) I nT (by show T∉[]; simp) (hok_none I.hok nT)).new,q⟩
theorem xe_fly {σ:L2.St} {H:Hp} {s:Shared} {pins:List (Addr×Obj)} {a C T:Addr} {c:Value}
    (I:Inv (cxOf (CXo P w) P w K mg base N qual sc f cd A outer s₀ H₀ E) pins σ H s) (F:Fly (cxOf (CXo P w) P w K mg base N qual sc f cd A outer s₀ H₀ E) pins H s a C T c .none) (hc:A.handled=none→c=.none) (q:E (.ref C) none H) :
    (cxOf (CXo P w) P w K mg base N qual sc f cd A outer s₀ H₀ E).xe (.ref a) s:=by
  refine leave_next I.ok.frames I.stack rfl F.ex F.tb F.ne fun h' T' x1 x2 x3 x4 p=>?_
  exact out_of (ch := [a, T]) I p (fun b hb => by rcases List.mem_cons.mp hb with z | z; · rw [z]; exact F.fa
                                                  · rw [List.mem_singleton.mp z]; exact F.fT) F.fa x1 x2 x3 x4 hc q
theorem passes_o {N:List Str}:Passes (CXo P w) (cxOf (CXo P w) P w K mg base N qual sc f cd A outer s₀ H₀ E) E:=fun pins σ H s e s' I h=>by
  obtain ⟨a,C,T,c,H',rfl,J,F,hc,q⟩:=fly_of I rfl h
  exact xe_fly J F hc q
theorem xe_made {σ:L2.St} {H:Hp} {s:Shared} {pins:List (Addr×Obj)} {a C:Addr} {h':Heap}
    (I:Inv (cxOf (CXo P w) P w K mg base N qual sc f cd A outer s₀ H₀ E) pins σ H s) (m:MadeX s.heap h' a C A.handled) (q:E (.ref C) none H) :
    (cxOf (CXo P w) P w K mg base N qual sc f cd A outer s₀ H₀ E).xe (.ref a) { s with heap:=h' }:=by
  have J:Inv (cxOf (CXo P w) P w K mg base N qual sc f cd A outer s₀ H₀ E) pins σ H { s with heap:=h' }:=I.kept (t':=s.toks) m.keeps
  obtain ⟨oe,vs,t,c,e1,e2,e3,e4,e5,e6,e7⟩:=m.there
  have fa:Fre (cxOf (CXo P w) P w K mg base N qual sc f cd A outer s₀ H₀ E) pins H a:=fre_new I m.new (by show a∉[]; simp) (hok_none I.hok m.new)
  refine leave_first J.ok.frames J.stack rfl ⟨oe,vs,.ref t,e1,e2,e3,e4,e5,e6⟩ fun h'' T' x1 x2 x3 x4 p=>?_
  exact out_of (ch:=[a]) J p (fun b hb=>by rw [List.mem_singleton.mp hb]; exact fa) fa x1 x2 x3 x4 e7 q
theorem own_o {N:List Str}:PassesOwn (model P w) (cxOf (CXo P w) P w K mg base N qual sc f cd A outer s₀ H₀ E).A (cxOf (CXo P w) P w K mg base N qual sc f cd A outer s₀ H₀ E).env (cxOf (CXo P w) P w K mg base N qual sc f cd A outer s₀ H₀ E).xe :=
  PassesOwn.leaving
end
theorem Df.okX {P:Program} {w:World} {K:PySem.W.Frag} {mg:Str→Option Value} {x:Str} {st:Stmt} {N ps:List Str} {k:Nat} {sp:Sp} (D:Df K mg x st ps) (S:FnScope N ps (defScope st)) (len:∀ vs H Q E,sp vs H Q E→vs.length=ps.length)
    (hbody:∀ (base:Heap) (f:Addr) (cdv:Value) (A:Around) (outer:List Env) (s:Shared) (H:Hp) (vs:List V) (Q:VK) (E:XK),Room k (A.deeper (envOfC x (defScope st) s.heap.objs.size f cdv))→sp vs H Q E →
      ∃ t,PSs (cxOf (CXo P w) P w K mg base N x (defScope st) f cdv A outer s H E) (defBody st) t∧t { nx:=fun _ H'=>Q .non H',rt:=Q } (start N vs) H):Cal P w K mg (CXo P w) x (k+1) ps sp:=by
  obtain ⟨f,fd,F,m,b⟩:=D
  refine ⟨f,fd,fun base=>?_,m,F.kp,b⟩
  obtain ⟨oc,od,kV,doc,pm,an,cdv,ct,osl,rfl,lk,hcd⟩:=F.ex
  exact fn_of lk hcd S len fun A outer s H vs Q E hr hsp=>hbody base f cdv A outer s H vs Q E hr hsp
end L3
end
section
namespace L3
open PySem PySem.Spec PyProof.Rows L2
abbrev suCx (X:Cx) (a:Addr) (oe:Obj) (cm:Bool):Cx:={ X with A:=X.A.mark (some (.ref a)),calm:=cm,pn:=(a,oe)::X.pn,xe:=fun _ _=>False }
section
variable {X:Cx} {pins:List (Addr×Obj)} {σ:L2.St} {H:Hp} {s:Shared} {a:Addr} {oe:Obj} {cm:Bool}
theorem su_ok (ok:X.Ok) (hc:cm=true→∃ vs,oe.data=.fields vs∧vs[2]?=some .none):(suCx X a oe cm).Ok :=
  ⟨ok.mod,ok.kind,ok.glob,ok.blt,ok.above,ok.inj,ok.has,ok.cab,fun h=>let ⟨vs,e1,e2⟩:=hc h; .inr ⟨a,oe,vs,rfl,.inr List.mem_cons_self,e1,e2⟩,ok.frames,ok.stk,ok.exf,ok.bs,ok.bsz,ok.noex,ok.exfs,ok.funs,ok.frf⟩
theorem su_in (I:Inv X pins σ H s) {vs:Array Value} (e:s.heap.get? a=some oe) (d:oe.data=.fields vs) (F:Fre X pins H a) (hc:cm=true→∃ vs,oe.data=.fields vs∧vs[2]?=some .none):Inv (suCx X a oe cm) pins σ H s:=by
  refine ⟨su_ok I.ok hc,I.os,I.bare,I.base,I.loc,I.cell,I.free,I.freeC,fun p hp=>?_,I.hok,I.len⟩
  rcases List.mem_cons.mp (show p∈(a,oe)::(X.pn++pins) from hp) with z | z
  · rw [z]
    exact ⟨e,F.un,F.loc,fs_ne I.funs e d,fun v q=>by rw [d] at q; cases q⟩
  · exact I.pin p z
theorem su_out (ok:X.Ok) (I:Inv (suCx X a oe cm) pins σ H s):Inv X pins σ H s:=⟨ok,I.os,I.bare,I.base,I.loc,I.cell,I.free,I.freeC,fun p hp=>I.pin p (List.mem_cons_of_mem _ hp),I.hok,I.len⟩
theorem su_sp (ok:X.Ok) {D:Ends} {f:Flow} (h:SP (suCx X a oe cm) pins D f s):SP X pins D f s:=by
  cases f with
  | next=>obtain ⟨σ',H',I,q⟩:=h; exact ⟨σ',H',su_out ok I,q⟩
  | brk=>obtain ⟨σ',H',I,q⟩:=h; exact ⟨σ',H',su_out ok I,q⟩
  | cont=>obtain ⟨σ',H',I,q⟩:=h; exact ⟨σ',H',su_out ok I,q⟩
  | ret u=>obtain ⟨v,σ',H',I,r,q⟩:=h; exact ⟨v,σ',H',su_out ok I,r,q⟩
end
theorem exc_matches {K:PySem.W.Frag} {prog:Program} {w:World} {A:Around} {E:Value→Shared→Prop} {Q:Bool→Shared→Prop} {s:Shared} {a C C':Addr} {oe:Obj} {b:Bool} (X:K.In s.heap) (he:s.heap.get? a=some oe) (hc:oe.cls=.ref C) (hK:ExcK K C') (e:PySem.W.subIn K (.ref C) (.ref C')=some b)
    (q:Q b s):wpAny (model prog w) A (excMatches (.ref a) (.ref C')) Q E s:=by
  obtain ⟨bmB,newId,initId,FB,qK⟩:=hK
  obtain ⟨bm,N,nm,qn,bs,hdct,sn,sub,ab,col,dd,k0,k1,k2,k3,k5,mN,hC,hN,hni,T⟩:=excK_obj X qK
  have hcB:(Value.ref C'::bm).contains (.type "BaseException")=true:=by rw [List.contains_cons,T.hasType FB.hasBase,Bool.or_true]
  have f:=tc_notTuple
  have L:=PySem.W.looks_subIn (M:=model prog w) X e
  obtain ⟨hp,g,d,t,os⟩:=s
  unfold excMatches
  repeat (first | with_reducible refine wpAny_bind (L.at ?_) | (with_reducible refine wpAny_loadPart_at he ?_; rw [hc]) | with_reducible refine wpAny_loadPart_at hC ?_ | (with_reducible refine wpAny_isSubtype_exc hC ?_; rw [hcB]) | wp_step)
  cases b <;> (wp_walk; exact q)
abbrev TH:=Addr→Addr→TS
def PH (X:Cx) (hs:List ExceptHandler) (t:TH):Prop:=∀ (pins:List (Addr×Obj)) (s:Shared) (σ:L2.St) (H:Hp) (D:Ends) (a C T:Addr) (c:Value),Inv X pins σ H s→Fly X pins H s a C T c .none→(X.A.handled=none→c=.none)→t C a D σ H →
  wpAny (model X.prog X.w) X.A (handleBy (.ref a) X.env hs) (SP X pins D) X.xe s
def hNil:TH:=fun _ _ _ _ _=>False
theorem ph_nil {X:Cx}:PH X [] hNil:=fun _ _ _ _ _ _ _ _ _ _ _ _ h=>h.elim
def Cm (X:Cx) (cm:Bool):Prop:=cm=true→X.A.handled=none
section
variable {X:Cx} {cm:Bool}
theorem fly_su {pins:List (Addr×Obj)} {s:Shared} {H:Hp} {a C T:Addr} {c fl:Value} (F:Fly X pins H s a C T c fl) (hc:X.A.handled=none→c=.none) (hm:Cm X cm):∃ oe vs,s.heap.get? a=some oe∧oe.cls=.ref C∧oe.data=.fields vs∧(cm=true→∃ vs,oe.data=.fields vs∧vs[2]?=some .none):=by
  obtain ⟨oe,vs,a0,e1,e2,e3,e4,e5,e6⟩:=F.ex
  exact ⟨oe,vs,e1,e2,e3,fun z=>⟨vs,e3,by rw [e6,hc (hm z)]⟩⟩
theorem clause_test {x:Str} {C':Addr} {np pos:Pos} {pins:List (Addr×Obj)} {s:Shared} {σ:L2.St} {H:Hp} {a C T:Addr} {c:Value} {b:Bool} {R:Result→Shared→Prop} (hK:ExcK X.K C') (hm:X.mg x=some (.ref C')) (hg:Gl X x) (hdb:(x==("__debug__" : Str))=false)
    (I:Inv X pins σ H s) (F:Fly X pins H s a C T c .none) (e:PySem.W.subIn X.K (.ref C) (.ref C')=some b)
    (h:∀ s1,Inv X pins σ H s1→Fly X pins H s1 a C T c .none→R (.ok (if b then .brk else .next)) s1) :
    codeAny (model X.prog X.w) (X.A.mark (some (.ref a))) (.handlers (.ref a) [.ExceptHandler (some (.Name x np)) none [] pos] X.env) R s:=by
  obtain ⟨oe,vs,a0,e1,e2,e3,e4,e5,e6⟩:=F.ex
  obtain ⟨oT,ts,f1,f2,f3⟩:=F.tb
  have I0:Inv X ((T,oT)::pins) σ H s:=I.pins_of fun p hp=>by
    rcases List.mem_cons.mp hp with z | z
    · rw [z]
      exact ⟨f1,F.fT.un,F.fT.loc,fs_ne I.funs f1 f2,fun v q=>by rw [f2] at q; cases q⟩
    · exact I.pin p (List.mem_append_right _ z)
  have fa':Fre X ((T,oT)::pins) H a:=⟨F.fa.un,F.fa.new,F.fa.loc,F.fa.cel,fun p hp=>by
    rcases List.mem_append.mp hp with z | z
    · exact F.fa.pin p (List.mem_append_left _ z)
    · rcases List.mem_cons.mp z with z | z
      · rw [z]; exact F.ne
      · exact F.fa.pin p (List.mem_append_right _ z)⟩
  have I1:Inv (suCx X a oe false) ((T,oT)::pins) σ H s:=su_in I0 e1 e3 fa' (fun z=>nomatch z)
  refine codeAny_handlers_test (wpAny_mono (pe_gref (X:=suCx X a oe false) (a:=C') hm hg hdb _ _ _ _ (fun v H'=>v=.ref C'∧H'=H) I1 ⟨rfl,rfl⟩) (fun v s1 hv=>?_) fun _ _ z=>z.elim)
  obtain ⟨w,H',J,r,rfl,rfl⟩:=hv
  cases (show v=Value.ref C' from r)
  have k1:=(J.pin (a,oe) (by simp)).1
  have k2:=(J.pin (T,oT) (by simp)).1
  have J0:Inv X pins σ H' s1:=(su_out I.ok J).pins_of fun p hp=>I0.ok |> fun _=>(su_out I.ok J).pin p (List.mem_append_right _ (List.mem_cons_of_mem _ hp))
  exact exc_matches J0.kIn k1 e2 hK e (h s1 J0 ⟨⟨oe,vs,a0,k1,e2,e3,e4,e5,e6⟩,⟨oT,ts,k2,f2,f3⟩,F.ne,F.fa,F.fT⟩)
theorem suite_in {pins:List (Addr×Obj)} {s:Shared} {σ:L2.St} {H:Hp} {a C T:Addr} {c fl:Value} {A:Around} {E:Value→Shared→Prop} {Q:Unit→Shared→Prop} (I:Inv X pins σ H s) (F:Fly X pins H s a C T c fl) (hc:X.A.handled=none→c=.none) (hm:Cm X cm)
    (h:∀ s1 oe,Inv (suCx X a oe cm) pins σ H s1→oe.cls=.ref C→Q () s1):wpAny (model X.prog X.w) A (setFlight (.ref a) none) Q E s:=by
  refine flight_none F.ex F.tb F.ne fun h' x1 x2 ot=>?_
  have p:Stp (frs X.stack) [T] s.heap h':=⟨fun b o e _ m=>(ot b (by simpa using m)).trans e,fun b o e _ m=>⟨o.slots,(ot b (by simpa using m)).trans e⟩⟩
  have J:=Inv.stp I p fun b hb=>by rw [List.mem_singleton.mp hb]; exact F.fT
  have F':Fly X pins H { s with heap:=h' } a C T c .none:=⟨x1,x2,F.ne,F.fa,F.fT⟩
  obtain ⟨oe,vs,e1,e2,e3,e4⟩:=fly_su F' hc hm
  exact h _ oe (su_in J e1 e3 F.fa e4) e2
def hCl (K:PySem.W.Frag) (C':Addr) (ts tr:TH):TH:=fun C a D σ H=>∃ b,PySem.W.subIn K (.ref C) (.ref C')=some b∧if b=true then ts C a D σ H else tr C a D σ H
theorem ph_cons {x:Str} {C':Addr} {np pos:Pos} {b₀:Stmt} {suite:List Stmt} {rest:List ExceptHandler} {ts tr:TH} (cm:Bool) (hK:ExcK X.K C') (hm:X.mg x=some (.ref C')) (hg:Gl X x) (hcm:Cm X cm)
    (hs:∀ (a C:Addr) (oe:Obj),oe.cls=.ref C→PSs (suCx X a oe cm) (b₀::suite) (ts C a)) (hr:PH X rest tr) (hdb:(x==("__debug__" : Str))=false:=by decide) :
    PH X (.ExceptHandler (some (.Name x np)) none (b₀::suite) pos::rest) (hCl X.K C' ts tr):=by
  intro pins s σ H D a C T c I F hc h
  obtain ⟨b,e,h⟩:=h
  refine wpAny_handleBy_cons (clause_test hK hm hg hdb I F e fun s1 J F1=>?_) (by intro q; cases q)
  cases b with
  | false =>
    have h:tr C a D σ H:=by simpa using h
    exact hr pins s1 σ H D a C T c J F1 hc h
  | true =>
    have h:ts C a D σ H:=by simpa using h
    refine codeAny_handlers_suite (suite_in J F1 hc hcm fun s2 oe J2 eo=>?_)
    exact wpAny_mono (hs a C oe eo pins s2 σ H D J2 h) (fun f s3 q=>su_sp I.ok q) fun _ _ z=>z.elim
def D1 (i:Nat) (D:Ends):Ends:={ nx:=fun σ H=>D.nx (σ.set i none) H,rt:=D.rt,bk:=fun σ H=>D.bk (σ.set i none) H,ct:=fun σ H=>D.ct (σ.set i none) H }
end
abbrev TB:=Ends→(Addr→L2.St→Hp→Prop)→L2.St→Hp→Prop
def BX (X:Cx) (pins:List (Addr×Obj)) (G:Addr→L2.St→Hp→Prop) (e:Value) (s':Shared):Prop:=∃ (a C T:Addr) (c:Value) (σ':L2.St) (H':Hp),e=.ref a∧Inv X pins σ' H' s'∧Fly X pins H' s' a C T c .none∧(X.A.handled=none→c=.none)∧G C σ' H'
def PB (X:Cx) (body:List Stmt) (t:TB):Prop:=∀ (pins:List (Addr×Obj)) (s:Shared) (σ:L2.St) (H:Hp) (D:Ends) (G:Addr→L2.St→Hp→Prop),Inv X pins σ H s→t D G σ H→wpAny (model X.prog X.w) X.A (execs body X.env) (SP X pins D) (BX X pins G) s
def tTry (tb:TB) (th:TH):TS:=fun D σ H=>tb D (fun C σ' H'=>∀ a,H' a=none→th C a D σ' H') σ H
theorem ps_try {X:Cx} {body:List Stmt} {h₀:ExceptHandler} {hs:List ExceptHandler} {tb:TB} {th:TH} {pos:Pos} (hx:X.ex=[]) (hst:X.stack=X.env::X.outer) (hf:X.env.frame=some X.env.locals) (hb:PB X body tb) (hh:PH X (h₀::hs) th):PS X (.Try body (h₀::hs) [] [] pos) (tTry tb th):=by
  intro pins s σ H D I h
  refine wpAny_Try_except (wpAny_mono (hb pins s σ H D _ I h) (fun f s1 q=>?_) fun e s1 q=>?_)
  · cases f with
    | next=>exact (by first | exact wpAny_execs_nil q | (rw [execs]; exact wpAny_pure q) | exact wpAny_pure q)
    | brk=>exact q
    | cont=>exact q
    | ret u=>exact q
  · obtain ⟨a,C,T,c,σ',H',rfl,J,F,hc,q⟩:=q
    refine note_next (by rw [J.ok.frames,hst]) (hst ▸ J.stack) hf F.ex F.tb F.ne fun h1 T1 x1 y1 n1 m1 p1=>flight_none (s:={ s1 with heap:=h1 }) x1 y1 m1 fun h2 x2 y2 o2=>?_
    have J1:Inv X pins σ' H' { s1 with heap:=h1 }:=Inv.stp J (hst ▸ p1) fun b hb=>by
      rcases List.mem_cons.mp hb with z | z
      · rw [z]; exact F.fa
      · rw [List.mem_singleton.mp z]; exact F.fT
    have fT1:Fre X pins H' T1:=fre_new J n1 (by rw [hx]; simp) (hok_none J.hok n1)
    have p2:Stp (frs X.stack) [T1] h1 h2:=⟨fun b o e _ m=>(o2 b (by simpa using m)).trans e,fun b o e _ m=>⟨o.slots,(o2 b (by simpa using m)).trans e⟩⟩
    have J2:Inv X pins σ' H' { s1 with heap:=h2 }:=Inv.stp (s:={ s1 with heap:=h1 }) J1 p2 fun b hb=>by rw [List.mem_singleton.mp hb]; exact fT1
    exact hh pins _ σ' H' D a C T1 c J2 ⟨x2,y2,m1,F.fa,fT1⟩ hc (q a F.fa.un)
theorem call_b {X:Cx} {x:Str} {k:Nat} {ps:List Str} {sp:Sp} {e:Expr} {es:List Expr} {t:TA} {p pos:Pos} {pins:List (Addr×Obj)} {s:Shared} {σ:L2.St} {H:Hp} {Q:VK} {G:Addr→L2.St→Hp→Prop} (F:Cal X.prog X.w X.K X.mg (CXo X.prog X.w) x k ps sp) (hr:Room k X.A) (hg:Gl X x) (hx:X.ex=[])
    (ha:PA X.nox (e::es) t) (hdb:(x==("__debug__" : Str))=false) (he:starEach (e::es) X.env=(false,eval e X.env)::starEach es X.env) (hpl:(backTo pos (starEach es X.env)).any (·.1)=false) (hc:X.calm=true)
    (I:Inv X pins σ H s) (h:t σ H fun vs H1=>sp vs H1 Q fun Cv _ H2=>∃ C,Cv=.ref C∧G C σ H2):wpAny (model X.prog X.w) X.A (eval (.Call (.Name x p) (e::es) [] pos) X.env) (EP X pins σ Q) (BX X pins G) s:=by
  obtain ⟨f,fd,F,m,kp,b⟩:=F
  refine wpAny_Call_Name_kw (ld_glob I hg m ?_ hdb)
  refine PySem.W.callWith_K (h₀:=X.base) I.ok.mod.kin kp (wpAny_mono (ha pos pins s σ H _ (I.wish _) h) (fun us s1 ⟨vs,H1,I1,r,q⟩=>⟨I1.unwish.kIn,?_⟩) fun _ _ z=>z.elim) he hpl
  refine run_cal F hr b I1.unwish hc (fun e s' hc=>?_) r q
  obtain ⟨a,C,T,c,H',rfl,J,Fl,hn,C',ec,q⟩:=fly_of I1.unwish hx hc
  cases ec
  exact ⟨a,C,T,c,σ,H',rfl,J,Fl,hn,q⟩
def bRet (sp:Sp) (t:TA):TB:=fun D G σ H=>t σ H fun vs H1=>sp vs H1 D.rt fun Cv _ H2=>∃ C,Cv=.ref C∧G C σ H2
theorem pb_ret {X:Cx} {x:Str} {k:Nat} {ps:List Str} {sp:Sp} {e:Expr} {es:List Expr} {t:TA} {p pos pos':Pos} (F:Cal X.prog X.w X.K X.mg (CXo X.prog X.w) x k ps sp) (hr:Room k X.A) (hg:Gl X x) (hx:X.ex=[]) (ha:PA X.nox (e::es) t)
    (hdb:(x==("__debug__" : Str))=false:=by decide) (he:starEach (e::es) X.env=(false,eval e X.env)::starEach es X.env:=by rfl) (hpl:(backTo pos (starEach es X.env)).any (·.1)=false:=by rfl) (hc:X.calm=true:=by rfl) :
    PB X [.Return (some (.Call (.Name x p) (e::es) [] pos)) pos'] (bRet sp t):=by
  intro pins s σ H D G I h
  exact wpAny_execs_cons (wpAny_Return_some (thn (call_b F hr hg hx ha hdb he hpl hc I h) fun v s1 ⟨y,H1,I1,r1,q1⟩=>⟨y,σ,H1,I1,r1,q1⟩))
end L3
end
section
namespace L3
open PySem PySem.Spec PyProof.Rows L2
structure ClsK (K:PySem.W.Frag) (C:Addr):Prop where
  ga:PySem.W.findIn K (.ref C) "__getattribute__" = some (some (.builtin "BaseException.__getattribute__"))
  cl:PySem.W.findIn K (.ref C) "__class__" = some (some (.builtin "object.__class__"))
  gt:PySem.W.findIn K (.ref C) "__getattr__" = some none
  ob:PySem.W.mroIn K C (.type "object")=some true
  be:PySem.W.mroIn K C (.type "BaseException")=some true
  is:(PySem.W.clsIn K C).isSome=true
section
variable {prog:Program} {w:World} {A:Around} {E:Value→Shared→Prop} {h:Heap} {g:Array GenState} {d:Drawn} {t:Nat} {os:OsState} {a C:Addr} {o:Obj} {K:PySem.W.Frag}
end
end L3
end
section
namespace L3
open PySem PySem.Spec PyProof.Rows L2
section
variable {X:Cx} {pins:List (Addr×Obj)} {σ:L2.St} {H:Hp} {s:Shared} {a:Addr} {D:List (Str×V)} {k:Str} {tk:Tok} {A:Around} {E:Value→Shared→Prop}
theorem tab_get1 {Q:Value→Shared→Prop} (T:TabK X.K a D) (I:Inv X pins σ H s) (h:∀ w',RelV ((KTD.datumAt k D).getD .non) w'→Q w' { s with toks:=s.toks+1 }):wpAny (model X.prog X.w) A (call (.builtin "dict.get") [.ref a,.str k tk]) Q E s:=by
  have ty:=T.typeIs I
  refine wpAny_call_entry PySem.F.slot_dict_get ty PySem.F.entry_dict_get ?_ (PySem.F.args_dict_get_2 _ _)
  show wpAny (model X.prog X.w) _ (dictGet a (.str k tk) >>= _) _ _ s
  refine wpAny_bind (tab_get T I (fun v u e r=>?_) fun hn=>?_)
  · have h:=h u (by rw [e]; exact r)
    exact wpAny_pure ⟨u,rfl,h⟩
  · have h:=h .none (by rw [hn]; exact rfl)
    refine wpAny_bind ?_
    unfold Builtin.Dict.missed
    rw [T.sys]
    simp only [Bool.false_eq_true,if_false]
    exact wpAny_pure (wpAny_pure ⟨_,rfl,h⟩)
end
def tTGet1 (K:PySem.W.Frag) (td ty:TE):TE:=fun σ H Q=>td σ H fun x H1=>∃ a D,x=.ref a∧TabK K a D∧ty σ H1 fun y H2=>∃ k,y=.str k∧Q ((KTD.datumAt k D).getD .non) H2
theorem pe_tget1 {X:Cx} {o e:Expr} {apos cpos:Pos} {td ty:TE} (ho:PE X o td) (he:PE X e ty) (m:M1 X o "get" apos e cpos):PE X (.Call (.Attribute o "get" apos) [e] [] cpos) (tTGet1 X.K td ty):=by
  intro pins s σ H Q I h
  refine wpAny_Call_method m.base m.few m.line PySem.F.plainAttrs_dict PySem.F.slot_dict_get PySem.F.type_dict_get (thn (ho pins s σ H _ I h) fun u s1 ⟨x,H1,I1,rx,a,D,ex,T,q1⟩=>?_)
  subst ex
  obtain rfl:u=Value.ref a:=rx
  have t1:=T.typeIs I1
  refine ⟨t1,fun b q=>?_,?_⟩
  · cases q
    obtain ⟨o,_,_,e,x,_⟩:=T.ex
    exact ⟨o,I1.kIn a o e,x.2.1⟩
  rw [m.trees]
  refine Calls.callWith_builtin rfl (Calls.evalArgs_plain (Calls.spliced_cons (thn (he pins s1 σ H1 _ I1 q1) fun iv s2 ⟨y,H2,I2,ry,k,ey,q2⟩=>Calls.spliced_nil ?_)))
  subst ey
  obtain ⟨t,rfl⟩:=ry
  exact tab_get1 T I2 fun w' r=>⟨_,H2,I2.tok _,r,q2⟩
theorem passF {P:Program} {w:World} {X:Cx}:Passes (CXo P w) X E0:=fun _ _ _ _ _ _ _ h=>by
  obtain ⟨a,C,T,c,H',_,_,_,_,_,_,_,_,_,_,_,_,_,q⟩:=h
  exact q.elim
def Iten (K:PySem.W.Frag) (a:Addr):It :=
  ⟨fun i H=>∃ xs x,SqL K H a xs∧xs[i]?=some x,
   fun i H v H'=>∃ p x,v=.ref p∧H p=none∧H'=upd H p (.tup [.int i,x])∧∀ xs,SqL K H a xs→xs[i]?=some x,
   fun i H=>∃ xs,SqL K H a xs∧xs.length=i⟩
structure ERec (a e it:Addr) (i:Nat) (h:Heap):Prop where
  e:∃ old,IsEnum h e it i old
  it:h.IsListIter it a i
theorem turn_enum {P:Program} {w:World} {K:PySem.W.Frag} {es:List Expr} {k:Nat} {pos:Pos} (a n:Nat):Turn P w K (.Tuple es k pos) (Iten K a) [n+1,n] (n+1) (ERec a (n+1) n) where
  mem:=by simp
  obj:=fun i h st c hc=>by
    simp only [List.mem_cons,List.not_mem_nil,or_false] at hc
    obtain ⟨old,e0⟩:=st.e
    obtain ⟨o1,e1,_,d1⟩:=st.it
    rcases hc with rfl | rfl
    · exact ⟨_,e0,fun v q=>by cases q⟩
    · exact ⟨o1,e1,fun v q=>by rw [d1] at q; cases q⟩
  keep:=fun i h h' st kp=>by
    obtain ⟨old,e0⟩:=st.e
    obtain ⟨o1,e1,r1⟩:=st.it
    exact ⟨⟨old,kp _ (by simp) _ e0⟩,⟨o1,kp _ (by simp) _ e1,r1⟩⟩
  item:=by
    intro X hP hw hK hc i pins s σ H E I hf st hg
    subst hP hw hK
    obtain ⟨xs,x,q1,hx⟩:=hg
    obtain ⟨its1,rv1,p1,_⟩:=I.list q1
    obtain ⟨u1,hu1,ru1⟩:=rv1.get hx
    obtain ⟨old,e0⟩:=st.e
    have ltz:=Heap.lt_size e0
    have l1:i<its1.toArray.size:=by rw [List.size_toArray]; exact (List.getElem?_eq_some_iff.mp hu1).1
    have na:∀ d∈[n+1,n],a≠d:=fun d hd=>sq_neL I q1 (hf d hd)
    have nh:∀ d∈[n+1,n],d∉hAdr X.A.in1:=fun d hd z=>I.hna hc (hf d hd).2.2.2.1 (hf d hd).2.2.2.2.2 d (mem_hAdr z) rfl
    have ha1:∀ d∈[n+1,n],∀ a,X.A.in1.handled=some (.ref a)→a≠d:=fun d hd=>I.hna hc (hf d hd).2.2.2.1 (hf d hd).2.2.2.2.2
    have hef:n+1∉(n::a::hAdr X.A.in1):=by
      simp only [List.mem_cons,not_or]
      exact ⟨by omega,Ne.symm (na (n+1) (by simp)),nh (n+1) (by simp)⟩
    refine wpAny_pyNext_enum_itemD (draws_lst n a (na n (by simp)) (ha1 n (by simp)) its1.toArray) e0 ⟨st.it,p1.isList,I.hb hc⟩ l1 (Nat.succ_ne_self n) hef fun x' h1 tk ex z1 s1 pr sz kp=>?_
    have ex:its1.toArray[i]?=some x':=ex
    have ex:u1=x':=by
      rw [List.getElem?_toArray,hu1] at ex
      exact Option.some.inj ex
    subst ex
    refine ⟨_,rfl,wpAny_letOwnedTupleGo_enum (s:={ s with heap:=h1,toks:=tk+1 }) z1 fun h2 z2 sb=>?_⟩
    have lt:∀ d∈[n+1,n],d<s.heap.objs.size:=fun d hd=>by
      have:d≤n+1:=by simp at hd; omega
      exact Nat.lt_of_le_of_lt this ltz
    have up:∀ c o,c≠n+1→h1.get? c=some o→h2.get? c=some o:=fun c o hc' e=>(sb.2 c hc').trans e
    have prT:h2.get? s.heap.objs.size=some { cls:=.type "tuple",data:=.seq #[.int i tk,u1] }:=up _ _ (Nat.ne_of_gt ltz) pr
    refine ⟨.ref s.heap.objs.size,_,turnedNew (s:=s) (h':=h2) (t':=tk+1) (ch:=[n+1,n]) (T:=s.heap.objs.size) (o:=.tup [.int i,x]) I (fun c o hc' e=>?_) hf (Nat.le_refl _) ?_,rfl,⟨_,x,rfl,I.hok.fresh (Nat.le_refl _),rfl,fun xs' a1=>?_⟩,?_,fun d hd=>?_⟩
    · simp only [List.mem_cons,List.not_mem_nil,or_false,not_or] at hc'
      exact up c o hc'.1 (kp c o hc'.1 hc'.2 e)
    · exact ⟨(by show 2≤sizeLine; decide),[.int i tk,u1],.cons ⟨tk,rfl⟩ (.cons ru1 .nil),⟨_,prT,rfl,_,rfl⟩⟩
    · rw [I.list_inj a1 q1]
      exact hx
    · obtain ⟨⟨oa,ea,ra⟩,_⟩:=s1
      refine ⟨⟨_,by simpa using z2⟩,⟨oa,up _ _ (by omega) ea,ra⟩⟩
    · rw [upd_ne (Nat.ne_of_lt (lt d hd))]
      exact (hf d hd).1
  done:=by
    intro X hP hw hK hc i pins s σ H E I hf st hg
    subst hP hw hK
    obtain ⟨xs,q1,hl⟩:=hg
    obtain ⟨its1,rv1,p1,_⟩:=I.list q1
    obtain ⟨old,e0⟩:=st.e
    have na:∀ d∈[n+1,n],a≠d:=fun d hd=>sq_neL I q1 (hf d hd)
    have ha1:∀ d∈[n+1,n],∀ a,X.A.in1.handled=some (.ref a)→a≠d:=fun d hd=>I.hna hc (hf d hd).2.2.2.1 (hf d hd).2.2.2.2.2
    have hi:its1.toArray.size=i:=by rw [List.size_toArray,← rv1.length]; exact hl
    subst hi
    refine wpAny_pyNext_enum_endD (draws_lst n a (na n (by simp)) (ha1 n (by simp)) its1.toArray) e0 ⟨st.it,p1.isList,I.hb hc⟩ fun h1 kp=>⟨rfl,?_⟩
    refine turnedL (t':=s.toks) (ch:=[n+1,n]) I (fun c o hc' e=>?_) hf
    simp only [List.mem_cons,List.not_mem_nil,or_false,not_or] at hc'
    exact kp c o hc'.2 e
  self:=fun A i s Q E st h=>by
    obtain ⟨old,e0⟩:=st.e
    exact wpAny_pyIter_enum e0 h
def iEnL (K:PySem.W.Frag) (ta:TA):TI:=fun σ H R=>ta σ H fun vs H1=>∃ a xs,vs=[.ref a]∧SqL K H1 a xs∧R (Iten K a) H1
theorem pi_enumL {X:Cx} {es:List Expr} {k:Nat} {tpos:Pos} {a:Expr} {ta:TA} {p pos:Pos} (hg:Gl X "enumerate") (hm:X.mg "enumerate" = none) (ha:PA X [a] ta) (hs:starEach [a] X.env=[(false,eval a X.env)]:=by rfl):PI X (.Tuple es k tpos) (.Call (.Name "enumerate" p) [a] [] pos) (iEnL X.K ta):=by
  intro pins s σ H R I h
  refine Call_ (ld_blt I hg hm boot_enumerate (PyProof.Rows.callWith_type1 (thn (ha pos pins s σ H _ I h) fun us s1 ⟨vs,H1,I1,r1,q1⟩=>?_) (by rw [hs]; rfl) (by rfl)))
  obtain ⟨a1,xs,e,k1,q⟩:=q1
  subst e
  obtain ⟨u1,rfl,ru1⟩:=Vals.one r1
  cases ru1
  obtain ⟨its1,rv1,p1,_⟩:=I1.list k1
  refine call_enumerate_list p1.isList fun h1 z1 s1' sz kp=>?_
  refine wpAny_pyIter_enum (s:={ s1 with heap:=h1 }) z1 ?_
  have I2:Inv X pins σ H1 { s1 with heap:=h1 }:=I1.kept (t':=s1.toks) kp
  refine ⟨_,_,_,_,H1,rfl,I2,turn_enum a1 s1.heap.objs.size,⟨⟨_,z1⟩,s1'⟩,fun d hd=>?_,q⟩
  have:s1.heap.objs.size≤d:=by
    simp only [List.mem_cons,List.not_mem_nil,or_false] at hd
    rcases hd with z | z <;> rw [z] <;> first | exact Nat.le_add_right _ _ | exact Nat.le_refl _
  exact I1.fpOk this (I1.hok.fresh this)
end L3
end
section
namespace L3
open PySem PySem.Spec PyProof.Rows L2
theorem cxK {CX:CXT} {P:Program} {w:World} {K:PySem.W.Frag} {mg:Str→Option Value} {base:Heap} {N:List Str} {qual:Str} {scope:Scope} {f:Addr} {cd:Value} {A:Around} {outer:List Env} {s:Shared} {H:Hp} {E:XK}:(cxOf CX P w K mg base N qual scope f cd A outer s H E).nox.K=K:=rfl
end L3
end
section
namespace L3
open PySem L2
theorem let2 {t1 t2:TS} {D:Ends} {σ:L2.St} {H:Hp} (h:let D0:Ends:=D; let v2:TS:=t2; tSeq t1 v2 D0 σ H):(tSeq t1 (t2)) D σ H:=h
theorem let3 {t1 t2 t3:TS} {D:Ends} {σ:L2.St} {H:Hp} (h:let D0:Ends:=D; let v3:TS:=t3; let v2:TS:=tSeq t2 v3; tSeq t1 v2 D0 σ H):(tSeq t1 (tSeq t2 (t3))) D σ H:=h
theorem let4 {t1 t2 t3 t4:TS} {D:Ends} {σ:L2.St} {H:Hp} (h:let D0:Ends:=D; let v4:TS:=t4; let v3:TS:=tSeq t3 v4; let v2:TS:=tSeq t2 v3; tSeq t1 v2 D0 σ H):(tSeq t1 (tSeq t2 (tSeq t3 (t4)))) D σ H:=h
theorem let5 {t1 t2 t3 t4 t5:TS} {D:Ends} {σ:L2.St} {H:Hp} (h:let D0:Ends:=D; let v5:TS:=t5; let v4:TS:=tSeq t4 v5; let v3:TS:=tSeq t3 v4; let v2:TS:=tSeq t2 v3; tSeq t1 v2 D0 σ H):(tSeq t1 (tSeq t2 (tSeq t3 (tSeq t4 (t5))))) D σ H:=h
theorem let6 {t1 t2 t3 t4 t5 t6:TS} {D:Ends} {σ:L2.St} {H:Hp} (h:let D0:Ends:=D; let v6:TS:=t6; let v5:TS:=tSeq t5 v6; let v4:TS:=tSeq t4 v5; let v3:TS:=tSeq t3 v4; let v2:TS:=tSeq t2 v3; tSeq t1 v2 D0 σ H):(tSeq t1 (tSeq t2 (tSeq t3 (tSeq t4 (tSeq t5 (t6)))))) D σ H:=h
theorem let9 {t1 t2 t3 t4 t5 t6 t7 t8 t9:TS} {D:Ends} {σ:L2.St} {H:Hp} (h:let D0:Ends:=D; let v9:TS:=t9; let v8:TS:=tSeq t8 v9; let v7:TS:=tSeq t7 v8; let v6:TS:=tSeq t6 v7; let v5:TS:=tSeq t5 v6; let v4:TS:=tSeq t4 v5; let v3:TS:=tSeq t3 v4; let v2:TS:=tSeq t2 v3; tSeq t1 v2 D0 σ H):(tSeq t1 (tSeq t2 (tSeq t3 (tSeq t4 (tSeq t5 (tSeq t6 (tSeq t7 (tSeq t8 (t9))))))))) D σ H:=h
theorem let10 {t1 t2 t3 t4 t5 t6 t7 t8 t9 t10:TS} {D:Ends} {σ:L2.St} {H:Hp} (h:let D0:Ends:=D; let v10:TS:=t10; let v9:TS:=tSeq t9 v10; let v8:TS:=tSeq t8 v9; let v7:TS:=tSeq t7 v8; let v6:TS:=tSeq t6 v7; let v5:TS:=tSeq t5 v6; let v4:TS:=tSeq t4 v5; let v3:TS:=tSeq t3 v4; let v2:TS:=tSeq t2 v3; tSeq t1 v2 D0 σ H):(tSeq t1 (tSeq t2 (tSeq t3 (tSeq t4 (tSeq t5 (tSeq t6 (tSeq t7 (tSeq t8 (tSeq t9 (t10)))))))))) D σ H:=h
end L3
namespace KM
theorem q0 {x:PySem.Str} {k n:Nat} (h:k+1≤n):depth (.tup [.str x])+k≤n:=by simp only [depth,depthL]; omega
theorem q1 {x:PySem.Str} {a:D} {k n:Nat} (h:depth a+(k+1)≤n):depth (.tup [.str x,a])+k≤n:=by simp only [depth,depthL]; omega
theorem q2 {x:PySem.Str} {a b:D} {k n:Nat} (h1:depth a+(k+1)≤n) (h2:depth b+(k+1)≤n):depth (.tup [.str x,a,b])+k≤n:=by simp only [depth,depthL]; omega
theorem q3 {x:PySem.Str} {a b c:D} {k n:Nat} (h1:depth a+(k+1)≤n) (h2:depth b+(k+1)≤n) (h3:depth c+(k+1)≤n):depth (.tup [.str x,a,b,c])+k≤n:=by simp only [depth,depthL]; omega
theorem q4 {x:PySem.Str} {a b c d:D} {k n:Nat} (h1:depth a+(k+1)≤n) (h2:depth b+(k+1)≤n) (h3:depth c+(k+1)≤n) (h4:depth d+(k+1)≤n):depth (.tup [.str x,a,b,c,d])+k≤n:=by simp only [depth,depthL]; omega
end KM
namespace L3
open PySem L2
theorem by0 {P:List Value→Prop} (h:P []):∀ us:List Value,us.length=0→P us:=fun us e=>by rw [List.length_eq_zero_iff.mp e]; exact h
theorem byS {P:List Value→Prop} {n:Nat} (h:∀ a us,us.length=n→P (a::us)):∀ us:List Value,us.length=n+1→P us
  | [],e=>nomatch e
  | a::us,e=>h a us (Nat.succ.inj e)
theorem by1 {P:List Value→Prop} (h:∀ a,P [a]):∀ us:List Value,us.length=1→P us:=byS fun a=>by0 (h a)
theorem by2 {P:List Value→Prop} (h:∀ a b,P [a,b]):∀ us:List Value,us.length=2→P us:=byS fun a=>by1 (h a)
theorem by3 {P:List Value→Prop} (h:∀ a b c,P [a,b,c]):∀ us:List Value,us.length=3→P us:=byS fun a=>by2 (h a)
def DfIn (K:PySem.W.Frag) (x:Str) (st:Stmt):Prop:=∃ (f:Addr) (od an:Option Addr) (sl:Array (Option Value)) (oc kV dc pm cd ct:Value),PySem.W.nsIn K mainGlobals x=some (some (.ref f)) ∧
  K.lookup f=some ⟨oc,od,.func (PySem.W.fnOf x x (defArgs st) (defBody st) (defScope st) .none kV dc pm an cd ct),sl⟩∧PySem.W.codeIn K cd x=true∧PySem.W.keepIn K (.ref f)=true
theorem dfi {K:PySem.W.Frag} {x:Str} {st:Stmt} {f:Addr} {od an:Option Addr} {sl:Array (Option Value)} {oc kV dc pm cd ct:Value} (a:PySem.W.nsIn K mainGlobals x=some (some (.ref f)))
    (l:K.lookup f=some ⟨oc,od,.func (PySem.W.fnOf x x (defArgs st) (defBody st) (defScope st) .none kV dc pm an cd ct),sl⟩) (c:PySem.W.codeIn K cd x=true) (k:PySem.W.keepIn K (.ref f)=true):DfIn K x st :=
  ⟨f,od,an,sl,oc,kV,dc,pm,cd,ct,a,l,c,k⟩
theorem DfIn.df {K:PySem.W.Frag} {h:Heap} {mg:Str→Option Value} {x:Str} {st:Stmt} {ps:List Str} (D:DfIn K x st) (X:K.In h) (G:h.Ns mainGlobals mg)
    (b:∀ (kV doc pm:Value) (an:Option Addr) (cdv ct:Value) (us:List Value),us.length=ps.length→bindArgs (PySem.W.fnOf x x (defArgs st) (defBody st) (defScope st) .none kV doc pm an cdv ct) ⟨us,[]⟩=pure (ps.zip us)):Df K mg x st ps:=by
  obtain ⟨f,od,an,sl,oc,kV,dc,pm,cd,ct,a,l,c,k⟩:=D
  exact ⟨f,_,fun_mk l c k,PySem.W.mg_of X G a,(fun_mk l c k).binds b⟩
end L3
end
section
namespace K27
open PySem L2 L3 KM
def top (i:Nat):Stmt:=PySem.Challenge.pw_keeper_k27_deep_bodies.main.body.getD i (.Pass ⟨0,0,0,0⟩)
abbrev s_is_number:Stmt:=top 13
abbrev s_is_vast:Stmt:=top 14
abbrev s_kids_of:Stmt:=top 15
abbrev s_binds_of:Stmt:=top 16
abbrev s_top_variable:Stmt:=top 17
abbrev s_bounded:Stmt:=top 18
abbrev s_rebuilt:Stmt:=top 19
abbrev s_kid_at:Stmt:=top 21
abbrev s_at_place:Stmt:=top 22
abbrev s_changed_at:Stmt:=top 23
abbrev s_with_at:Stmt:=top 24
abbrev s_with_free:Stmt:=top 26
abbrev s_raised:Stmt:=top 27
abbrev s_put_in:Stmt:=top 28
abbrev s_rule_of:Stmt:=top 31
abbrev s_after_next:Stmt:=top 32
abbrev s_after_rule:Stmt:=top 33
abbrev s_stepped:Stmt:=top 34
abbrev s_first_step:Stmt:=top 35
abbrev s_normal:Stmt:=top 37
abbrev s_walked:Stmt:=top 38
abbrev s_law_draw:Stmt:=top 40
abbrev s_law_kids:Stmt:=top 41
abbrev s_law_measured:Stmt:=top 42
abbrev s_law_great:Stmt:=top 43
abbrev s_law_over:Stmt:=top 44
abbrev s_law_moved:Stmt:=top 45
abbrev s_law_put:Stmt:=top 46
abbrev s_law_round:Stmt:=top 47
abbrev s_law_deep:Stmt:=top 48
abbrev s_law_told:Stmt:=top 49
abbrev s_law_first:Stmt:=top 50
abbrev s_law:Stmt:=top 51
structure Adr where
  none_:Unit:=()
  KIDS_DUE:Addr
  BINDER_OVER:Addr
  RULES:Addr
  Great:Addr
  NoPlace:Addr
  NoStep:Addr
  Dry:Addr
structure Mg (mg:Str→Option Value) (t:Adr):Prop where
  n_bool:mg "bool" = none
  n_enumerate:mg "enumerate" = none
  n_int:mg "int" = none
  n_isinstance:mg "isinstance" = none
  n_len:mg "len" = none
  n_list:mg "list" = none
  n_max:mg "max" = none
  n_range:mg "range" = none
  n_tuple:mg "tuple" = none
  n_zip:mg "zip" = none
  g_MOST_KNOTS:∃ tk,mg "MOST_KNOTS" = some (.int 600 tk)
  g_MOST_DEEP:∃ tk,mg "MOST_DEEP" = some (.int 40 tk)
  g_MOST_VARIABLE:∃ tk,mg "MOST_VARIABLE" = some (.int 99 tk)
  g_KIDS_DUE:mg "KIDS_DUE" = some (.ref t.KIDS_DUE)
  g_BINDER_OVER:mg "BINDER_OVER" = some (.ref t.BINDER_OVER)
  g_RULES:mg "RULES" = some (.ref t.RULES)
  g_Great:mg "Great" = some (.ref t.Great)
  g_NoPlace:mg "NoPlace" = some (.ref t.NoPlace)
  g_NoStep:mg "NoStep" = some (.ref t.NoStep)
  g_Dry:mg "Dry" = some (.ref t.Dry)
seal L2.PE L2.PS L2.PSs L2.PT L2.PW L2.PA L2.PG L2.PGs L2.PI L2.PC L2.PO L2.PPs L2.PK L3.PIf
variable {P:Program} {w:World} {K:PySem.W.Frag} {mg:Str→Option Value} {base:Heap} {f:Addr} {fd:FuncData}
variable {P:Program} {w:World} {K:PySem.W.Frag} {mg:Str→Option Value} {base:Heap} {f:Addr} {fd:FuncData}
def tab1:List (Key×V):=[(.inr "nat",.str ""),(.inr "none",.str ""),(.inr "zero",.str ""),(.inr "all",.str "kk"),(.inr "some",.str "kk"),(.inr "same",.str "ktt"),(.inr "fun",.str "kt"),(.inr "app",.str "tt")]
def tab2:List (Key×V):=[(.inr "next",.str "t"),(.inr "rec",.str "kttt"),(.inr "like",.str "kt"),(.inr "carry",.str "ktt"),(.inr "never",.str "kt"),(.inr "pair",.str "ktt"),(.inr "first",.str "t")]
def tab3:List (Key×V):=[(.inr "second",.str "t"),(.inr "var",.str "n"),(.inr "name",.str "w")]
def shapeV (x : Str) : V := match valV tab1 (Sum.inr x : Key) with
  | some v=>v
  | none=>match valV tab2 (Sum.inr x:Key) with
    | some v=>v
    | none=>(valV tab3 (Sum.inr x:Key)).getD .non
def kindW (w:Str):Bool:=inV (.str w) [.str "nat",.str "none",.str "all",.str "some",.str "same"]
def numD:D→Bool
  | .int i=>decide (0≤i)
  | _=>false
mutual
def wfG (nm : D → Bool) (k : Bool) : D → Bool
  | .tup (.str w::ps)=>match shapeV w with
    | .str s=>(kindW w==k) && wfL nm s.cps.toList ps
    | _=>false
  | _=>false
def wfL (nm:D→Bool):List Nat→List D→Bool
  | [],[]=>true
  | c::cs,p::ps=>(if c=107 then wfG nm true p else if c=116 then wfG nm false p else if c=110 then numD p else nm p) && wfL nm cs ps
  | _,_=>false
end
def dueB (nm:D→Bool) (c:Nat) (p:D):Bool:=if c=107 then wfG nm true p else if c=116 then wfG nm false p else if c=110 then numD p else nm p
theorem wfL_cons (nm:D→Bool) (c:Nat) (cs:List Nat) (p:D) (ps:List D):wfL nm (c::cs) (p::ps)=(dueB nm c p && wfL nm cs ps):=by rw [wfL]; rfl
theorem wfG_mk {nm:D→Bool} {k:Bool} {w s:Str} {ps:List D} (h1:shapeV w=.str s) (h2:kindW w=k) (h3:wfL nm s.cps.toList ps=true):wfG nm k (.tup (.str w::ps))=true:=by
  rw [wfG,h1]
  simp [h2,h3]
theorem shape_var:shapeV "var" = .str "n" := by decide +kernel
theorem shape_name:shapeV "name" = .str "w" := by decide +kernel
theorem kind_var:kindW "var" = false:=by decide +kernel
theorem len_n:(Str.ofString "n").cps.toList=[110]:=by decide +kernel
theorem len_w:(Str.ofString "w").cps.toList=[119]:=by decide +kernel
variable {P:Program} {w:World} {K:PySem.W.Frag} {mg:Str→Option Value} {base:Heap} {f fN fM fS:Addr} {fd fdN fdM fdS:FuncData}
def w0 (k:Bool):Str:=if k then "nat" else "var"
variable {t:Adr}
end K27
end
section
set_option maxHeartbeats 1000000
namespace K27
open PySem L2 L3 KM
seal L2.PE L2.PS L2.PSs L2.PT L2.PW L2.PA L2.PG L2.PGs L2.PI L2.PC L2.PO L2.PPs L2.PK L3.PIf
variable {P:Program} {w:World} {K:PySem.W.Frag} {mg:Str→Option Value} {base:Heap} {t:Adr}
def rows18:List (Str×List V):=[("nat",[]),("none",[]),("all",[.str "kind",.str "kind"]),("some",[.str "kind",.str "kind"]),("same",[.str "kind",.str "term",.str "term"]),("var",[]),("fun",[.str "kind",.str "term"]),
  ("app",[.str "term",.str "term"]),("zero",[]),("next",[.str "term"]),("rec",[.str "kind",.str "term",.str "term",.str "term"]),("like",[.str "kind",.str "term"]),("carry",[.str "kind",.str "term",.str "term"]),
  ("never",[.str "kind",.str "term"]),("pair",[.str "kind",.str "term",.str "term"]),("first",[.str "term"]),("second",[.str "term"]),("name",[])]
def cDue (c:Nat):V:=if c=107 then .str "kind" else .str "term"
def rowOk (r:Str×List V):Bool:=match shapeV r.1 with
  | .str s=>decide (s.cps.size≤4) && if r.1 = "var" then decide (s = "n") else if r.1 = "name" then decide (s = "w") else s.cps.toList.all (fun c=>c==107 || c==116) && decide (r.2=s.cps.toList.map cDue)
  | _=>false
theorem rows_ok:rows18.all rowOk=true:=by decide +kernel
theorem lookup_mem {α:Type} {x:Str} {v:α}:∀ {l:List (Str×α)},l.lookup x=some v→(x,v)∈l
  | [],h=>by simp at h
  | (k,u)::l,h=>by
    rw [List.lookup_cons] at h
    cases e:x==k with
    | true =>
      rw [e] at h
      obtain rfl:x=k:=by simpa using e
      cases h
      exact List.mem_cons_self
    | false=>rw [e] at h; exact List.mem_cons_of_mem _ (lookup_mem h)
theorem lookup_none {α:Type} {x:Str}:∀ {l:List (Str×α)},l.lookup x=none→x∉l.map (·.1)
  | [],_=>by simp
  | (k,u)::l,h=>by
    rw [List.lookup_cons] at h
    cases e:x==k with
    | true=>rw [e] at h; cases h
    | false =>
      rw [e] at h
      have:=lookup_none h
      have e:¬ x=k:=by simpa using e
      simp only [List.map_cons,List.mem_cons,not_or]
      exact ⟨e,this⟩
inductive Shp (w:Str):Prop where
  | non (h1:rows18.lookup w=none) (h2:shapeV w=.non)
  | var (h1:rows18.lookup w=some []) (h2:w = "var")
  | name (h1:rows18.lookup w=some []) (h2:w = "name")
  | form (s:Str) (h1:rows18.lookup w=some (s.cps.toList.map cDue)) (h2:shapeV w=.str s) (h3:w ≠ "var") (h4:w ≠ "name") (h5:∀ c∈s.cps.toList,c=107∨c=116) (h6:s.cps.size≤4)
theorem keyNone {tab:List (Key×V)} {w:Str} (h:∀ k∈tab.map (·.1),k≠Sum.inr w):valV tab (Sum.inr w:Key)=none:=by
  cases e:valV tab (Sum.inr w:Key) with
  | none=>rfl
  | some v =>
    exact absurd rfl (h _ (valV_in e))
def keyIn (k:Key) (l:List Str):Bool:=match k with
  | .inr x=>decide (x∈l)
  | .inl _=>true
theorem shp (w:Str):Shp w:=by
  cases h:rows18.lookup w with
  | none =>
    refine .non h ?_
    have nm:=lookup_none h
    have sub:∀ tab:List (Key×V),(tab.map (·.1)).all (fun k=>keyIn k (rows18.map (·.1)))=true→valV tab (Sum.inr w:Key)=none:=fun tab ht=>keyNone fun k hk z=>by
      subst z
      have:=List.all_eq_true.mp ht _ hk
      simp only [keyIn,decide_eq_true_eq] at this
      exact nm this
    have e1:=sub tab1 (by decide +kernel)
    have e2:=sub tab2 (by decide +kernel)
    have e3:=sub tab3 (by decide +kernel)
    unfold shapeV
    rw [e1,e2,e3]
    rfl
  | some ds =>
    have m:=lookup_mem h
    have g:=List.all_eq_true.mp rows_ok _ m
    unfold rowOk at g
    by_cases hv:w = "var"
    · subst hv
      exact .var (by decide +kernel) rfl
    · by_cases hn:w = "name"
      · subst hn
        exact .name (by decide +kernel) rfl
      · cases e:shapeV w with
        | str s =>
          rw [e] at g
          simp only [hv,hn,if_false,Bool.and_eq_true,List.all_eq_true,Bool.or_eq_true,beq_iff_eq,decide_eq_true_eq] at g
          obtain ⟨g1,g2,g3⟩:=g
          exact .form s (by rw [h,g3]) e hv hn g2 g1
        | _=>rw [e] at g; simp at g
end K27
end
section
set_option maxHeartbeats 1000000
namespace K27
open PySem L2 L3 KM
seal L2.PE L2.PS L2.PSs L2.PT L2.PW L2.PA L2.PG L2.PGs L2.PI L2.PC L2.PO L2.PPs L2.PK L3.PIf
variable {P:Program} {w:World} {K:PySem.W.Frag} {mg:Str→Option Value} {base:Heap} {t:Adr}
def leafW (x:Str):Bool:=decide (x = "var") || decide (x = "name")
def kidsD (x:Str) (ps:List D):List D:=if leafW x=true then [] else ps
def spKids:Sp:=fun vs H Q _=>∃ (x:Str) (ps:List D) (v:V),vs=[v]∧Rep H (.tup (.str x::ps)) v∧ps.length≤10∧∀ (a:Addr) (us:List V) (H':Hp),H a=none→Same H H'→H' a=some (.lst us)→Reps H' (kidsD x ps) us→Q (.ref a) H'
theorem sc_kids_of:FnScope ["thing"] ["thing"] (defScope s_kids_of):=⟨rfl,rfl,rfl,by decide +kernel,rfl,by decide +kernel,by decide +kernel⟩
theorem c_kids_of (D:Df K mg "kids_of" s_kids_of ["thing"]) (M:Mg mg t):Cal P w K mg CX0 "kids_of" (1) ["thing"] spKids:=by
  refine D.ok sc_kids_of (fun vs H Q E h=>?_) (fun base f cdv A outer s H vs Q E hr h=>?_)
  · obtain ⟨x,ps,v,rfl,_⟩:=h
    rfl
  obtain ⟨x,ps,v,rfl,r,hl,q⟩:=h
  obtain ⟨a,us,rfl,ha,v0,us,rfl,⟨rfl,hx⟩,rp⟩:=r
  have hlu:=rp.length
  have ea:atI (V.str x::us) 0=some (.str x):=atI_nat (j:=0) rfl
  have hT:SqT K H a (.str x::us):=SqT.of ha
  refine ⟨_,(pss_cons (ps_if (L2.PW.pt (pw_or (pt_cmpR op_eq (pe_ix ix_tup (pv 0) pe_int (fun _ _=>rfl)) pe_str (nomark _)) (pw_or1 (pt_cmpR op_eq (pe_ix ix_tup (pv 0) pe_int (fun _ _=>rfl)) pe_str (nomark _))))) (pss_one (ps_ret (pe_lst pa_nil))) pss_nil)
      (pss_one (ps_ret (pe_callTy call_list_of rfl M.n_list bt_list (pa_cons (pe_slice sl_tupW (pv 0) (po_some pe_int) po_none) pa_nil))))),?_⟩
  try dsimp only [cxK,cxK2]
  refine let2 ?_
  intro _ _
  have leaf:leafW x=true→0≤sizeLine∧∀ p,H p=none→Q (.ref p) (upd H p (.lst [])):=fun c=>⟨Nat.zero_le _,fun p hp=>q p [] _ hp (same_new hp _) upd_same (by unfold kidsD; rw [if_pos c]; exact rfl)⟩
  refine ⟨_,rfl,a,_,_,_,rfl,rfl,hT,ea,rfl,_,rfl,?_⟩
  refine ite2 (fun c=>?_) (fun c=>?_)
  · refine iteT ?_
    have c:V.str x=V.str "var" := of_decide_eq_true c
    cases c
    exact leaf rfl
  refine ⟨_,rfl,a,_,_,_,rfl,rfl,hT,ea,rfl,_,rfl,?_⟩
  refine ite2 (fun c2=>?_) (fun c2=>?_)
  · have c2:V.str x=V.str "name" := of_decide_eq_true c2
    cases c2
    exact leaf (by decide +kernel)
  have nl:leafW x=false:=by
    unfold leafW
    have h1:x ≠ "var" := fun z=>c (by rw [z]; decide +kernel)
    have h2:x ≠ "name" := fun z=>c2 (by rw [z]; decide +kernel)
    simp [h1,h2]
  have nk:kidsD x ps=ps:=by unfold kidsD; rw [nl]; rfl
  rw [nk] at q
  have ec:cutV (V.str x::us) (some 1) none=us:=by
    have:=cutV_from (V.str x::us) 1
    simpa using this
  refine ⟨_,rfl,_,rfl,a,_,rfl,hT,fun p hp=>?_,fun z=>?_⟩
  · rw [ec]
    refine ⟨p,us,rfl,.inr (SqT.of upd_same),fun l hl=>?_⟩
    exact q l us _ ((same_new hp _).free hl) ((same_new hp _).trans (same_new hl _)) upd_same (rp.mono ((same_new hp _).trans (same_new hl _)))
  · rw [ec] at z
    exact absurd (congrArg List.length z) (by simp)
theorem wfL_len {nm:D→Bool}:∀ {cs:List Nat} {ps:List D},wfL nm cs ps=true→cs.length=ps.length
  | [],[],_=>rfl
  | [],_::_,h=>by simp [wfL] at h
  | _::_,[],h=>by simp [wfL] at h
  | c::cs,p::ps,h=>by
    rw [wfL_cons,Bool.and_eq_true] at h
    rw [List.length_cons,List.length_cons,wfL_len h.2]
def ktB (c:Nat):Bool:=!(Builtin.Str.occurrences (Str.ofString "kt") ⟨#[c]⟩ 0 (Str.ofString "kt").length 1).isEmpty
theorem kt1:ktB 107=true:=by decide +kernel
theorem kt2:ktB 116=true:=by decide +kernel
theorem kt3:ktB 110=false:=by decide +kernel
theorem kt4:ktB 119=false:=by decide +kernel
theorem wf_shape {nm:D→Bool} {k:Bool} {x:Str} {ps:List D} (h:wfG nm k (.tup (.str x::ps))=true):∃ s,shapeV x=.str s∧kindW x=k∧wfL nm s.cps.toList ps=true∧s.cps.size≤4∧s.cps.toList.length=ps.length∧(∀ c∈s.cps.toList,ktB c=!leafW x) ∧
    (leafW x=false→∀ c∈s.cps.toList,c=107∨c=116)∧∃ r,rows18.lookup x=some r∧r.length=(kidsD x ps).length:=by
  have key:∀ s,shapeV x=.str s→kindW x=k∧wfL nm s.cps.toList ps=true:=fun s e=>by
    rw [wfG,e,Bool.and_eq_true] at h
    exact ⟨by simpa using h.1,h.2⟩
  cases shp x with
  | non h1 h2=>rw [wfG,h2] at h; simp at h
  | var h1 h2 =>
    subst h2
    obtain ⟨k1,k2⟩:=key _ shape_var
    refine ⟨_,shape_var,k1,k2,by decide,wfL_len k2,fun c hc=>?_,fun z=>absurd z (by decide +kernel),_,h1,by unfold kidsD; rw [if_pos (by decide +kernel)]; rfl⟩
    rw [len_n] at hc
    rw [List.mem_singleton.mp hc,kt3]
    decide +kernel
  | name h1 h2 =>
    subst h2
    obtain ⟨k1,k2⟩:=key _ shape_name
    refine ⟨_,shape_name,k1,k2,by decide,wfL_len k2,fun c hc=>?_,fun z=>absurd z (by decide +kernel),_,h1,by unfold kidsD; rw [if_pos (by decide +kernel)]; rfl⟩
    rw [len_w] at hc
    rw [List.mem_singleton.mp hc,kt4]
    decide +kernel
  | form s h1 h2 h3 h4 h5 h6 =>
    obtain ⟨k1,k2⟩:=key s h2
    have nl:leafW x=false:=by unfold leafW; simp [h3,h4]
    refine ⟨s,h2,k1,k2,h6,wfL_len k2,fun c hc=>?_,fun _=>h5,_,h1,?_⟩
    · rw [nl]
      rcases h5 c hc with z | z <;> rw [z]
      · exact kt1
      · exact kt2
    · unfold kidsD
      rw [nl,List.length_map,wfL_len k2]
      rfl
end K27
end
section
set_option maxHeartbeats 1000000
namespace K27
open PySem L2 L3 KM PyProof.Rows
seal L2.PE L2.PS L2.PSs L2.PT L2.PW L2.PA L2.PG L2.PGs L2.PI L2.PC L2.PO L2.PPs L2.PK L3.PIf
variable {P:Program} {w:World} {K:PySem.W.Frag} {mg:Str→Option Value} {base:Heap} {t:Adr}
def BO:List (Str×V):=[("all",.int 1),("some",.int 1),("fun",.int 1),("rec",.int 0),("carry",.int 0)]
def overV (x:Str):V:=(KTD.datumAt x BO).getD .non
def bindV (x:Str) (i:Nat):V:=if decide (V.int i=overV x)=true then .int 1 else .int 0
def bindsV (x:Str) (n:Nat):List V:=(List.range n).map (bindV x)
def spBinds:Sp:=fun vs H Q _=>∃ (x:Str) (ps:List D) (v:V) (k:Bool),vs=[v]∧Rep H (.tup (.str x::ps)) v∧wfG isStrD k (.tup (.str x::ps))=true∧∀ (a:Addr) (H':Hp),Same H H'→H' a=some (.lst (bindsV x (kidsD x ps).length))→Q (.ref a) H'
theorem over_scal (x:Str) (i:Int):scal (.int i) (overV x)=true:=by
  unfold overV
  cases e:KTD.datumAt x BO with
  | none=>rfl
  | some v =>
    have:v=.int 1∨v=.int 0:=by
      simp only [KTD.datumAt,BO] at e
      repeat' split at e
      all_goals first | (cases e; exact .inl rfl) | (cases e; exact .inr rfl) | cases e
    rcases this with z | z <;> rw [z] <;> rfl
theorem sc_binds_of:FnScope ["thing", "over"] ["thing"] (defScope s_binds_of):=⟨rfl,rfl,rfl,by decide +kernel,rfl,by decide +kernel,by decide +kernel⟩
theorem c_binds_of (D:Df K mg "binds_of" s_binds_of ["thing"]) (M:Mg mg t) {as:List Addr} (T:KD K t.KIDS_DUE rows18 as) (B:TabK K t.BINDER_OVER BO):Cal P w K mg CX0 "binds_of" (1) ["thing"] spBinds:=by
  refine D.ok sc_binds_of (fun vs H Q E h=>?_) (fun base f cdv A outer s H vs Q E hr h=>?_)
  · obtain ⟨x,ps,v,k,rfl,_⟩:=h
    rfl
  obtain ⟨x,ps,v,k,rfl,r,wf,q⟩:=h
  obtain ⟨a,us,rfl,ha,v0,us,rfl,⟨rfl,hx⟩,rp⟩:=r
  have hlu:=rp.length
  have ea:atI (V.str x::us) 0=some (.str x):=atI_nat (j:=0) rfl
  have hT:SqT K H a (.str x::us):=SqT.of ha
  obtain ⟨sh,hsh,hk,hwf,h4,hlen,hkt,_,rw',hrw,hrl⟩:=wf_shape wf
  obtain ⟨b,hb1,hb2⟩:=T.some hrw
  have hn:(kidsD x ps).length≤4:=by
    unfold kidsD
    split
    · exact Nat.zero_le _
    · rw [← hlen]; simpa using h4
  refine ⟨_,(pss_cons (ps_set (i:=1) sc_binds_of.nd rfl (by first | exact Or.inl rfl | exact Or.inr rfl) (pe_tget1 (pe_gref M.g_BINDER_OVER rfl) (pe_ix ix_tup (pv 0) pe_int (fun _ _=>rfl)) ⟨rfl,rfl,rfl,rfl⟩))
      (pss_one (ps_ret (pe_comp (N':=["number", "over"]) (own:=1) (fr:=[1]) rfl (blk_of (N:=["thing", "over"]) (sc:=defScope s_binds_of) rfl rfl rfl (by decide +kernel)) (pi_range1 rfl M.n_range (pa_cons (pe_callB call_len_seq rfl M.n_len bt_len (pa_cons (pe_tab (pe_gref M.g_KIDS_DUE rfl) (pe_ix ix_tup (pv 0) pe_int (fun _ _=>rfl)) (fun _ _=>rfl)) pa_nil)) pa_nil)) (own_name (by decide)) (fun _ _ _=>(pg_name (i:=0) (show List.Nodup (["number", "over"]:List Str) by decide +kernel) rfl (Or.inl rfl))) (fun _ _ _=>pif_nil) (fun _ _ _=>(pe_ifExp (pt_cmpR op_eq (pv 0) (pv 1) (nomark _)) pe_int pe_int)))))),?_⟩
  try dsimp only [cxK,cxK2]
  refine let2 ?_
  intro _ _
  refine ⟨_,_,rfl,B,_,rfl,a,_,_,_,rfl,rfl,hT,ea,x,rfl,?_⟩
  refine ⟨_,rfl,a,_,_,_,rfl,rfl,hT,ea,_,_,x,_,rfl,rfl,T.tab,hb1,b,_,rfl,.inr (hb2 H),_,rfl,(by show -(2 ^ 62)≤((rw'.length:Nat):Int); omega),(by show ((rw'.length:Nat):Int)<2 ^ 62; omega),fun p hp=>comp_vals rw'.length (bindV x) hp (by rw [hrl]; exact Nat.le_trans hn (by decide)) (fun i H2 hi s2=>⟨hi,?_⟩) fun H2 s2 h2=>⟨Nat.le_refl _,?_⟩⟩
  · rintro x' H3 ⟨rfl,rfl⟩ R hR
    have e0:(0:Int)+(i:Int)=((i:Nat):Int):=by omega
    rw [e0]
    refine ⟨_,rfl,_,rfl,over_scal x i,_,rfl,?_⟩
    refine ite2 (fun c=>?_) (fun c=>?_)
    · have e:bindV x i=.int 1:=by unfold bindV; exact if_pos c
      have:=hR H3 (Same.refl _)
      rw [e] at this
      exact this
    · have e:bindV x i=.int 0:=by unfold bindV; exact if_neg c
      have:=hR H3 (Same.refl _)
      rw [e] at this
      exact this
  · rw [hrl] at h2
    exact q p H2 s2 h2
theorem inV_strs (x:Str):∀ ws:List Str,inV (.str x) (ws.map V.str)=decide (x∈ws)
  | []=>rfl
  | y :: ws => by
    have ih:=inV_strs x ws
    unfold inV at ih ⊢
    rw [List.map_cons,List.any_cons,ih]
    show (y==x || decide (x∈ws))=decide (x∈y::ws)
    by_cases e:y=x
    · subst e; simp
    · have e':¬ x=y:=fun z=>e z.symm
      simp [e,e']
end K27
end
section
set_option maxHeartbeats 1000000
namespace K27
open PySem L2 L3 KM PyProof.Rows
seal L2.PE L2.PS L2.PSs L2.PT L2.PW L2.PA L2.PG L2.PGs L2.PI L2.PC L2.PO L2.PPs L2.PK L3.PIf
variable {P:Program} {w:World} {K:PySem.W.Frag} {mg:Str→Option Value} {base:Heap} {t:Adr}
theorem depth_get:∀ {ps:List D} {i:Nat} {p:D},ps[i]?=some p→depth p≤depthL ps
  | [],_,_,e=>by simp at e
  | p::ps,0,_,e=>by
    simp at e
    subst e
    simp only [depthL]
    omega
  | _::ps,i+1,p,e=>by
    have:=depth_get (ps:=ps) (i:=i) (by simpa using e)
    simp only [depthL]
    omega
end K27
end
section
namespace L3
open PySem PySem.Spec PyProof.Rows L2 KM
theorem cat_tup0 {prog:Program} {w:World} {A:Around} {E:Value→Shared→Prop} {s:Shared} {t b:Addr} {ws:List Value} {Q:Value→Shared→Prop} (ht:IsTup s.heap t (([]:List Value)).toArray) (hb:IsTup s.heap b ws.toArray) (h1:Q (.ref b) s) :
    wpAny (model prog w) A (binaryOp .Add (.ref t) (.ref b)) Q E s:=by
  obtain ⟨⟨cls,dd,data,sl⟩,ho,hc,n,hd⟩:=id ht
  obtain ⟨⟨cls2,dd2,data2,sl2⟩,ho2,hc2,n2,hd2⟩:=id hb
  simp only at hc hd hc2 hd2
  subst hc hd hc2 hd2
  exact concat_meets ⟨_,ho,rfl⟩ ⟨_,ho2,rfl⟩ noFill_tuple_add seq_tuple_add PySem.F.slot_tuple_add PySem.F.entry_tuple_add (PySem.F.args_tuple_add_2 _ _) (tuple_addW0 t b _ ws.toArray n n2 dd dd2 sl sl2 (by simp)) ⟨ho,ho2,h1⟩
def rCat0 (K:PySem.W.Frag):R2:=fun x y H Q=>∃ a b xs ys,x=.ref a∧y=.ref b∧SqT K H a xs∧SqT K H b ys∧xs.length+ys.length≤sizeLine∧(xs=[]→Q (.ref b) H)∧(xs≠[]→ys=[]→Q (.ref a) H) ∧
  (xs≠[]→ys≠[]→∀ p,H p=none→Q (.ref p) (upd H p (.tup (xs++ys))))
theorem op_cat0 {X:Cx}:OpR X (binaryOp .Add) (rCat0 X.K):=by
  intro pins s σ H x y v u Q I rx ry h
  obtain ⟨a,b,xs,ys,rfl,rfl,ha,hb,hz,q0,q1,q2⟩:=h
  by_cases hx:xs=[]
  · cases rx
    cases ry
    subst hx
    obtain ⟨its,r1,p1,_⟩:=I.tuple ha
    obtain ⟨its2,r2,p2,_⟩:=I.tuple hb
    have e:its=[]:=r1.nil_iff.mpr rfl
    subst e
    exact cat_tup0 p1 p2 ⟨.ref b,H,I,rfl,q0 rfl⟩
  · exact op_catT pins s σ H _ _ v u Q I rx ry ⟨a,b,xs,ys,rfl,rfl,ha,hb,hx,hz,q1 hx,q2 hx⟩
theorem SlR.imp {X:Cx} {r r':V→Option Int→Option Int→Hp→VK→Prop} (h:SlR X r) (i:∀ x lo hi H Q,r' x lo hi H Q→r x lo hi H Q):SlR X r':=by
  intro a1 a2 a3 a4 a5 a6 a7 a8 a9 b1 b2 b3 b4
  intros
  apply h <;> first | assumption | (apply i; assumption)
def rSlU:V→Option Int→Option Int→Hp→VK→Prop:=fun x lo hi H Q=>∃ a xs,x=.ref a∧H a=some (.tup xs)∧∀ b H',Same H H'→H' b=some (.tup (cutV xs lo hi))→Q (.ref b) H'
theorem sl_tupU {X:Cx}:SlR X rSlU:=SlR.imp sl_tupW fun x lo hi H Q ⟨a,xs,e,h,q⟩=>⟨a,xs,e,SqT.of h,fun p hp=>q p _ (same_new hp _) upd_same,fun z=>q a H (Same.refl H) (by rw [z]; exact h)⟩
def rCatU:R2:=fun x y H Q=>∃ a b xs ys,x=.ref a∧y=.ref b∧H a=some (.tup xs)∧H b=some (.tup ys)∧xs.length+ys.length≤sizeLine∧∀ p H',Same H H'→H' p=some (.tup (xs++ys))→Q (.ref p) H'
theorem op_catU {X:Cx}:OpR X (binaryOp .Add) rCatU:=by
  intro pins s σ H x y v u Q I rx ry h
  obtain ⟨a,b,xs,ys,rfl,rfl,ha,hb,hz,q⟩:=h
  refine op_cat0 pins s σ H _ _ v u Q I rx ry ⟨a,b,xs,ys,rfl,rfl,SqT.of ha,SqT.of hb,hz,fun e=>?_,fun _ e=>?_,fun _ _ p hp=>q p _ (same_new hp _) upd_same⟩
  · subst e
    exact q b H (Same.refl H) hb
  · subst e
    exact q a H (Same.refl H) (by rw [List.append_nil]; exact ha)
mutual
theorem Rep.updL {H:Hp} {p:Addr} {xs:List V} {o:HO} (h:H p=some (.lst xs)):∀ {d:D} {v:V},Rep H d v→Rep (upd H p o) d v
  | .non,_,r=>r
  | .bl _,_,r=>r
  | .int _,_,r=>r
  | .str _,_,r=>r
  | .tup _,_,⟨a,vs,e,q,r⟩=>⟨a,vs,e,by rw [upd_ne (ne_of q h (by simp))]; exact q,Reps.updL h r⟩
theorem Reps.updL {H:Hp} {p:Addr} {xs:List V} {o:HO} (h:H p=some (.lst xs)):∀ {ds:List D} {vs:List V},Reps H ds vs→Reps (upd H p o) ds vs
  | [],_,r=>r
  | _::_,_,⟨v,r,e,q,t⟩=>⟨v,r,e,Rep.updL h q,Reps.updL h t⟩
end
theorem comp_reps {J:It} {p:Addr} {H1:Hp} {g:TG} {te:TE} {b:L2.St} {C:Hp→Prop} (n:Nat) (f:Nat→D) (hp:H1 p=none) (hn:n≤sizeLine)
    (hgo:∀ i H2,i<n→Same H1 H2→J.go i H2∧∀ x H3,J.yld i H2 x H3→∀ (R:V→Hp→Prop),(∀ v H6,Same H2 H6→Rep H6 (f i) v→R v H6)→g x b H3 fun σ4 H4=>te σ4 H4 R)
    (hd:∀ acc H2,Same H1 H2→H2 p=some (.lst acc)→Reps H2 ((List.range n).map f) acc→J.stop n H2∧C H2) :
    ∃ W:Nat→Nat→List V→Hp→Prop,(∃ m,W 0 m [] (upd H1 p (.lst [])))∧∀ i m acc H2,W i m acc H2→(J.stop i H2∧C H2)∨(J.go i H2∧∀ x H3,J.yld i H2 x H3→g x b H3 fun σ4 H4=>tYes σ4 H4 fun ok H5 =>
      if ok=true then te σ4 H5 fun v H6=>H6 p=some (.lst acc)∧acc.length<sizeLine∧∃ m',m'<m∧W (i+1) m' (acc++[v]) (upd H6 p (.lst (acc++[v]))) else ∃ m',m'<m∧W (i+1) m' acc H5):=by
  refine comp_by (Q:=fun _ H=>C H) n (fun i acc H2=>Reps H2 ((List.range i).map f) acc∧H2 p=some (.lst acc)∧Same H1 H2) ⟨rfl,upd_same,same_new hp _⟩ ?_ ?_
  · rintro i acc H2 hi ⟨rr,h2,s2⟩
    obtain ⟨g1,g2⟩:=hgo i H2 hi s2
    refine ⟨g1,fun x H3 y=>?_⟩
    simp only [tYes,if_true]
    have hl:=rr.length
    rw [List.length_map,List.length_range] at hl
    refine g2 x H3 y _ fun v H6 s6 rv=>⟨s6 _ _ h2,by omega,nx hi ⟨?_,upd_same,same_upd (s2.trans s6) hp⟩⟩
    rw [List.range_succ,List.map_append]
    exact ((rr.mono s6).updL (s6 _ _ h2)).append (Reps.one (rv.updL (s6 _ _ h2)))
  · rintro acc H2 ⟨rr,h2,s2⟩
    exact hd acc H2 s2 h2 rr
end L3
namespace L3
open PySem PySem.Spec PyProof.Rows L2
end L3
end
section
namespace L3
open PySem PySem.Spec PyProof.Rows L2 KM
end L3
end
section
set_option maxHeartbeats 1000000
namespace K27
open PySem L2 L3 KM PyProof.Rows
seal L2.PE L2.PS L2.PSs L2.PT L2.PW L2.PA L2.PG L2.PGs L2.PI L2.PC L2.PO L2.PPs L2.PK L3.PIf
variable {P:Program} {w:World} {K:PySem.W.Frag} {mg:Str→Option Value} {base:Heap} {t:Adr}
mutual
def plc:D→List (List Nat)
  | .tup (.str x::ps)=>[]::(if leafW x=true then [] else plcL 0 ps)
  | _=>[]
def plcL:Nat→List D→List (List Nat)
  | _,[]=>[]
  | i,d::ds=>(plc d).map (i::·)++plcL (i+1) ds
end
theorem take_snoc {l:List D} {i:Nat} {d:D} (h:l[i]?=some d):l.take (i+1)=l.take i++[d]:=by
  rw [List.take_add_one,h]
  rfl
def plD (pl:List Nat):D:=.tup (pl.map fun i=>.int (i:Nat))
theorem wf_form {nm:D→Bool} {k:Bool}:∀ {d:D},wfG nm k d=true→∃ x ps,d=.tup (.str x::ps)
  | .tup (.str x::ps),_=>⟨x,ps,rfl⟩
  | .tup [],h=>by simp [wfG] at h
  | .tup (.non::_),h=>by simp [wfG] at h
  | .tup (.bl _::_),h=>by simp [wfG] at h
  | .tup (.int _::_),h=>by simp [wfG] at h
  | .tup (.tup _::_),h=>by simp [wfG] at h
  | .non,h=>by simp [wfG] at h
  | .bl _,h=>by simp [wfG] at h
  | .int _,h=>by simp [wfG] at h
  | .str _,h=>by simp [wfG] at h
theorem wfL_kid {nm:D→Bool}:∀ {cs:List Nat} {ps:List D} {i:Nat} {p:D},wfL nm cs ps=true→(∀ c∈cs,c=107∨c=116)→ps[i]?=some p→∃ k,wfG nm k p=true
  | [],[],_,_,_,_,e=>by simp at e
  | [],_::_,_,_,h,_,_=>by simp [wfL] at h
  | _::_,[],_,_,h,_,_=>by simp [wfL] at h
  | c :: cs, q :: ps, 0, p, h, hc, e => by
    simp at e
    subst e
    rw [wfL_cons,Bool.and_eq_true] at h
    have h1:=h.1
    unfold dueB at h1
    rcases hc c List.mem_cons_self with z | z
    · rw [z,if_pos rfl] at h1
      exact ⟨true,h1⟩
    · rw [z,if_neg (by decide),if_pos rfl] at h1
      exact ⟨false,h1⟩
  | c::cs,q::ps,i+1,p,h,hc,e=>by
    rw [wfL_cons,Bool.and_eq_true] at h
    exact wfL_kid (i:=i) h.2 (fun c hc'=>hc c (List.mem_cons_of_mem _ hc')) (by simpa using e)
theorem wf_kid {k:Bool} {x:Str} {ps:List D} {i:Nat} {p:D} (h:wfG isStrD k (.tup (.str x::ps))=true) (e:(kidsD x ps)[i]?=some p):(∃ k,wfG isStrD k p=true)∧depth p<depth (.tup (.str x::ps)):=by
  obtain ⟨s,h1,h2,h3,h4,h5,h6,h7,_⟩:=wf_shape h
  unfold kidsD at e
  split at e
  · simp at e
  · rename_i nl
    refine ⟨wfL_kid h3 (h7 (by simpa using nl)) e,?_⟩
    have:=depth_get e
    simp only [depth,depthL]
    omega
theorem kids4 {k:Bool} {x:Str} {ps:List D} (h:wfG isStrD k (.tup (.str x::ps))=true):(kidsD x ps).length≤4:=by
  obtain ⟨s,h1,h2,h3,h4,h5,h6,h7,_⟩:=wf_shape h
  unfold kidsD
  split
  · exact Nat.zero_le _
  · rw [← h5]; simpa using h4
structure Rt (d:D) (n:Nat):Prop where
  wf:∃ k,wfG isStrD k d=true
  dp:depth d<n
  ct:(plc d).length≤2000000
  n60:n≤60
theorem wf_nat {nm:D→Bool}  : wfG nm true (.tup [.str "nat"])=true:=by
  refine wfG_mk (w := "nat") (s := "") (by decide +kernel) (by decide +kernel) ?_
  rw [show (Str.ofString "").cps.toList=[] by decide +kernel]
  simp [dueB,wfL]
theorem wf_zero {nm:D→Bool}  : wfG nm false (.tup [.str "zero"])=true:=by
  refine wfG_mk (w := "zero") (s := "") (by decide +kernel) (by decide +kernel) ?_
  rw [show (Str.ofString "").cps.toList=[] by decide +kernel]
  simp [dueB,wfL]
theorem rep_new {H:Hp} {p:Addr} {ds:List D} {vs:List V} (hp:H p=none) (r:Reps H ds vs):Rep (upd H p (.tup vs)) (.tup ds) (.ref p):=⟨p,vs,rfl,upd_same,r.mono (same_new hp _)⟩
theorem rs {H:Hp} {d:D} {v:V} {ds:List D} {vs:List V} (r:Rep H d v) (t:Reps H ds vs):Reps H (d::ds) (v::vs):=⟨v,vs,rfl,r,t⟩
theorem r0 {H:Hp}:Reps H [] []:=rfl
theorem rw_ {H:Hp} {x:Str} (h:x.length≤1000:=by decide):Rep H (.str x) (.str x):=⟨rfl,h⟩
theorem ri {H:Hp} {i:Int}:Rep H (.int i) (.int i):=rfl
structure Th (d:D) (dp kn:Nat):Prop where
  wf:wfG isStrD false d=true
  dp:depth d≤dp
  kn:knots d≤kn
def Wf (d:D):Prop:=∃ k,wfG isStrD k d=true
theorem wf_ps {d:D} (h:Wf d):∃ x ps k,d=.tup (.str x::ps)∧wfG isStrD k d=true∧ps.length≤10:=by
  obtain ⟨k,h⟩:=h
  obtain ⟨x,ps,rfl⟩:=wf_form h
  obtain ⟨sh,_,_,_,h4,h5,_⟩:=wf_shape h
  refine ⟨x,ps,k,rfl,h,?_⟩
  rw [← h5]
  exact Nat.le_trans (by simpa using h4) (by decide)
end K27
end
section
set_option maxHeartbeats 1000000
namespace K27
open PySem L2 L3 KM
seal L2.PE L2.PS L2.PSs L2.PT L2.PW L2.PA L2.PG L2.PGs L2.PI L2.PC L2.PO L2.PPs L2.PK L3.PIf
variable {P:Program} {w:World} {K:PySem.W.Frag} {mg:Str→Option Value} {base:Heap} {t:Adr}
theorem sizeLine_eq:sizeLine=16777216:=by decide
def okH (d:D):Prop:=d=.non∨d=.tup []∨∃ x,d=.str x
mutual
def okD:D→Prop
  | .tup []=>True
  | .tup (h::ps)=>okH h∧okL ps∧ps.length≤20
  | _=>True
def okL:List D→Prop
  | []=>True
  | p::ps=>okD p∧okL ps
end
mutual
theorem wf_ok:∀ {k:Bool} {d:D},wfG isStrD k d=true→okD d
  | k,.tup (.str x::ps),h=>by
    obtain ⟨s,e1,e2,e3,e4,e5,_⟩:=wf_shape h
    refine ⟨.inr (.inr ⟨x,rfl⟩),wf_okL e3,?_⟩
    have:s.cps.toList.length=s.cps.size:=by simp
    omega
  | k,.tup [],h=>by simp [wfG] at h
  | k,.tup (.non::_),h=>by simp [wfG] at h
  | k,.tup (.bl _::_),h=>by simp [wfG] at h
  | k,.tup (.int _::_),h=>by simp [wfG] at h
  | k,.tup (.tup _::_),h=>by simp [wfG] at h
  | k,.non,h=>by simp [wfG] at h
  | k,.bl _,h=>by simp [wfG] at h
  | k,.int _,h=>by simp [wfG] at h
  | k,.str _,h=>by simp [wfG] at h
theorem wf_okL:∀ {cs:List Nat} {ps:List D},wfL isStrD cs ps=true→okL ps
  | [],[],_=>trivial
  | [],_::_,h=>by simp [wfL] at h
  | _::_,[],h=>by simp [wfL] at h
  | c :: cs, p :: ps, h => by
    rw [wfL_cons,Bool.and_eq_true] at h
    refine ⟨?_,wf_okL h.2⟩
    have h:=h.1
    unfold dueB at h
    by_cases c1:c=107
    · rw [if_pos c1] at h; exact wf_ok h
    · rw [if_neg c1] at h
      by_cases c2:c=116
      · rw [if_pos c2] at h; exact wf_ok h
      · rw [if_neg c2] at h
        cases p <;> first | trivial | (simp [numD,isStrD] at h; done)
end
theorem ok_len:∀ {ds:List D},okD (.tup ds)→ds.length≤21
  | [],_=>by simp
  | _::ps,h=>by have:=h.2.2; simp; omega
theorem okL_mem:∀ {ps:List D} {p:D},okL ps→p∈ps→okD p
  | [],_,_,e=>by simp at e
  | q::ps,p,h,e=>by
    rcases List.mem_cons.mp e with rfl | e
    · exact h.1
    · exact okL_mem h.2 e
theorem ok_tk:∀ {d:D},okD d→∀ x∈tk d,okD x
  | .tup [],_,x,hx=>by simp [tk] at hx
  | .tup (h::ps),ok,x,hx=>by
    have hm:x∈h::ps:=(List.mem_filter.mp hx).1
    rcases List.mem_cons.mp hm with rfl | hm
    · rcases ok.1 with rfl | rfl | ⟨y,rfl⟩ <;> simp [okD]
    · exact okL_mem ok.2.1 hm
  | .non,_,x,hx=>by simp [tk] at hx
  | .bl _,_,x,hx=>by simp [tk] at hx
  | .int _,_,x,hx=>by simp [tk] at hx
  | .str _,_,x,hx=>by simp [tk] at hx
theorem ok_lv:∀ (n:Nat) (l:List D),(∀ x∈l,okD x)→∀ x∈lv n l,okD x
  | 0,_,h=>h
  | n+1,l,h=>ok_lv n _ fun x hx=>by
    obtain ⟨d,hd,hx⟩:=List.mem_flatMap.mp hx
    exact ok_tk (h d hd) x hx
def vastD (d:D):Bool:=!(decide (knots d≤600) && decide (depth d≤40))
def spVast:Sp:=fun vs H Q _=>∃ ds v,vs=[v]∧Rep H (.tup ds) v∧okD (.tup ds)∧0≤knots (.tup ds)∧∀ H',Same H H'→Q (.bl (vastD (.tup ds))) H'
def pickT (ds:List D) (vs:List V) (j:Nat):Option V:=if isTup ((ds[j]?).getD .non) then vs[j]? else none
theorem reps_pick {H:Hp}:∀ {ds:List D} {vs:List V},Reps H ds vs→Reps H (ds.filter isTup) ((List.range vs.length).filterMap (pickT ds vs))
  | [],_,r=>by
    have r:_=[]:=r
    subst r
    exact rfl
  | d :: ds, _, ⟨v, vr, e, q, t⟩ => by
    subst e
    have ih:=reps_pick t
    rw [List.length_cons,List.range_succ_eq_map,List.filterMap_cons,List.filterMap_map]
    have e:(pickT (d::ds) (v::vr) ∘ Nat.succ)=pickT ds vr:=by
      funext j
      simp [pickT]
    rw [e]
    by_cases hd:isTup d=true
    · rw [List.filter_cons_of_pos hd]
      have e0:pickT (d::ds) (v::vr) 0=some v:=by simp [pickT,hd]
      simp only [e0]
      exact ⟨v,_,rfl,q,ih⟩
    · rw [List.filter_cons_of_neg hd]
      have e0:pickT (d::ds) (v::vr) 0=none:=by simp [pickT,hd]
      simp only [e0]
      exact ih
theorem tups_one (ds:List D):∀ x∈[D.tup ds],isTup x=true:=fun x hx=>by
  rw [List.mem_singleton.mp hx]; rfl
theorem knots_one (ds:List D):knotsL [D.tup ds]=knots (.tup ds):=by simp [knotsL]
theorem depth_one (ds:List D):depthL [D.tup ds]=depth (.tup ds):=by simp [depthL]
theorem lv_len (i:Nat) (ds:List D):(lv i [D.tup ds]).length≤knots (.tup ds):=by
  have h:=upto_knots (i+1) [D.tup ds] (tups_one ds)
  rw [knots_one] at h
  simp only [upto] at h
  omega
theorem flat_take_len (l:List D) (j:Nat):((l.take j).flatMap tk).length≤(l.flatMap tk).length:=by
  have e:l.flatMap tk=(l.take j).flatMap tk++(l.drop j).flatMap tk:=by rw [← List.flatMap_append,List.take_append_drop]
  rw [e,List.length_append]
  omega
theorem flat_len {L:Nat}:∀ (l:List D),(∀ d∈l,(tk d).length≤L)→(l.flatMap tk).length≤l.length*L
  | [],_=>by simp
  | d::l,h=>by
    rw [List.flatMap_cons,List.length_append,List.length_cons,Nat.add_mul,Nat.one_mul]
    have:=flat_len l fun x hx=>h x (List.mem_cons_of_mem _ hx)
    have:=h d List.mem_cons_self
    omega
theorem tk_len {d:D} (h:okD d):(tk d).length≤21:=by
  cases d with
  | tup es=>exact Nat.le_trans (List.length_filter_le _ _) (ok_len h)
  | _=>simp [tk]
theorem vast_yes {ds:List D} {i:Nat} (h:600<upto i [D.tup ds]):vastD (.tup ds)=true:=by
  have:=upto_knots i [D.tup ds] (tups_one ds)
  rw [knots_one] at this
  unfold vastD
  rw [decide_eq_false (by omega)]
  rfl
theorem vast_end {ds:List D} (h:upto 40 [D.tup ds]≤600):vastD (.tup ds)=decide (0<(lv 40 [D.tup ds]).length):=by
  have e:=small_iff [D.tup ds] (tups_one ds)
  rw [knots_one,depth_one] at e
  unfold vastD
  by_cases hz:lv 40 [D.tup ds]=[]
  · obtain ⟨a,b⟩:=e.mp ⟨h,hz⟩
    rw [decide_eq_true a,decide_eq_true b,hz]
    rfl
  · have:¬ (knots (.tup ds)≤600∧depth (.tup ds)≤40):=fun z=>hz (e.mpr z).2
    have hl:0<(lv 40 [D.tup ds]).length:=List.length_pos_iff.mpr hz
    rw [decide_eq_true hl]
    by_cases a:knots (.tup ds)≤600
    · rw [decide_eq_false fun b=>this ⟨a,b⟩,Bool.and_false]; rfl
    · rw [decide_eq_false a]; rfl
theorem sc_is_vast:FnScope ["value", "level", "knots", "depth", "below", "knot"] ["value"] (defScope s_is_vast):=⟨rfl,rfl,rfl,by decide +kernel,rfl,by decide +kernel,by decide +kernel⟩
theorem c_is_vast (D:Df K mg "is_vast" s_is_vast ["value"]) (M:Mg mg t):Cal P w K mg CX0 "is_vast" (1) ["value"] spVast:=by
  refine D.ok sc_is_vast (fun vs H Q E h=>?_) (fun base f cdv A outer s H vs Q E hr h=>?_)
  · obtain ⟨d,v,rfl,_⟩:=h
    rfl
  obtain ⟨ds,v,rfl,r,ok,hk,q⟩:=h
  refine ⟨_,(pss_cons (ps_set (i:=1) sc_is_vast.nd rfl (by first | exact Or.inl rfl | exact Or.inr rfl) (pe_lst (pa_cons (pv 0) pa_nil)))
      (pss_cons (ps_set (i:=2) sc_is_vast.nd rfl (by first | exact Or.inl rfl | exact Or.inr rfl) pe_int)
      (pss_cons (ps_for PassesOwn.never rfl (pi_range1 rfl M.n_range (pa_cons (pe_gint M.g_MOST_DEEP rfl) pa_nil)) (pg_name (i:=3) sc_is_vast.nd rfl (by first | exact Or.inl rfl | exact Or.inr rfl)) (pss_cons (ps_aug (i:=2) sc_is_vast.nd rfl (by first | exact Or.inl rfl | exact Or.inr rfl) (pe_callB call_len_seq rfl M.n_len bt_len (pa_cons (pv 1) pa_nil)) ip_add)
      (pss_cons (ps_if (pt_cmpR op_gt (pv 2) (pe_gint M.g_MOST_KNOTS rfl) (nomark _)) (pss_one (ps_ret pe_bl)) pss_nil)
      (pss_cons (ps_set (i:=4) sc_is_vast.nd rfl (by first | exact Or.inl rfl | exact Or.inr rfl) (pe_lst pa_nil))
      (pss_cons (ps_for PassesOwn.never rfl (pi_list (pv 1)) (pg_name (i:=5) sc_is_vast.nd rfl (by first | exact Or.inl rfl | exact Or.inr rfl)) (pss_one (ps_expr (pe_bm PySem.F.plainAttrs_list PySem.F.slot_list_extend PySem.F.type_list_extend mt_extend (pv 4) (pa_cons (pe_comp (N':=["part"]) (own:=1) (fr:=[]) rfl (blk_of (N:=["value", "level", "knots", "depth", "below", "knot"]) (sc:=defScope s_is_vast) rfl rfl rfl (by decide +kernel)) (pi_tup (pv 5)) (own_name (by decide)) (fun _ _ _=>(pg_name (i:=0) (show List.Nodup (["part"]:List Str) by decide +kernel) rfl (Or.inl rfl))) (fun _ _ _=>(pif_one (pt_val (pe_callB (call_isinstK (K:=K)) rfl M.n_isinstance bt_isinstance (pa_cons (pv 0) (pa_cons (pe_ty M.n_tuple bt_tuple rfl) pa_nil)))))) (fun _ _ _=>(pv 0))) pa_nil)))))
      (pss_one (ps_set (i:=1) sc_is_vast.nd rfl (by first | exact Or.inl rfl | exact Or.inr rfl) (pv 4))))))))
      (pss_one (ps_ret (pe_cmpR op_gt (pe_callB call_len_seq rfl M.n_len bt_len (pa_cons (pv 1) pa_nil)) pe_int (nomark _))))))),?_⟩
  try dsimp only [cxK,cxK2]
  refine let4 ?_
  intro _ _ _ _
  refine ⟨_,rfl,(by show 1≤sizeLine; decide),fun q1 hq1=>?_⟩
  have e1:(upd H q1 (.lst [v])) q1=some (.lst [v]):=upd_same
  have s1:Same H (upd H q1 (.lst [v])):=same_new hq1 _
  refine ⟨40,rfl,by decide,by decide,for_range (n:=40) (fun i σ' H'=>∃ (q:Addr) (us:List V) (k3 k4 k5:Option V),σ'=[some v,some (.ref q),some (.int (upto i [KM.D.tup ds])),k3,k4,k5]∧H' q=some (.lst us) ∧
    Reps H' (lv i [KM.D.tup ds]) us∧upto i [KM.D.tup ds]≤600∧Same H H') ?_ ?_ ?_⟩
  · exact ⟨q1,[v],none,none,none,rfl,e1,Reps.one (r.mono s1),by simp [upto],s1⟩
  · rintro i σ' H2 hi ⟨q2,us,k3,k4,k5,rfl,hq2,rp,hup,s2⟩
    have lus:=rp.length
    have lvl:=lv_len i ds
    refine ⟨_,rfl,_,rfl,q2,us,rfl,.inl (SqL.of hq2),_,_,rfl,rfl,?_⟩
    have eu:((upto i [KM.D.tup ds]:Nat):Int)+((us.length:Nat):Int)=((upto (i+1) [KM.D.tup ds]:Nat):Int):=by
      simp only [upto]
      omega
    show tSeq _ _ _ [some v,some (.ref q2),some (.int (((upto i [KM.D.tup ds]:Nat):Int)+((us.length:Nat):Int))),some (.int (0+(i:Int))),k4,k5] H2
    rw [eu]
    refine ⟨_,rfl,_,_,rfl,rfl,_,rfl,?_⟩
    refine ite2 (fun c=>?_) (fun c=>?_)
    · have c:(600:Int)<((upto (i+1) [KM.D.tup ds]:Nat):Int):=of_decide_eq_true c
      have e:=vast_yes (ds:=ds) (i:=i+1) (by omega)
      rw [e] at q
      exact q H2 s2
    have c:¬ (600:Int)<((upto (i+1) [KM.D.tup ds]:Nat):Int):=of_decide_eq_false (Bool.eq_false_iff.mpr c)
    refine ⟨by show 0≤sizeLine; decide,fun q4 hq4=>?_⟩
    have e4:(upd H2 q4 (.lst [])) q4=some (.lst []):=upd_same
    have s4:Same H2 (upd H2 q4 (.lst [])):=same_new hq4 _
    refine ⟨_,rfl,q2,rfl,⟨us,SqL.of (s4 _ _ hq2)⟩,for_list (xs:=us) (fun j σ' H'=>∃ (bs:List V) (k5:Option V),σ'=[some v,some (.ref q2),some (.int (upto (i+1) [KM.D.tup ds])),some (.int (0+(i:Int))),some (.ref q4),k5] ∧
      H' q4=some (.lst bs)∧Reps H' (((lv i [KM.D.tup ds]).take j).flatMap tk) bs∧Same H2 H') ?_ ?_ ?_ ?_⟩
    · exact ⟨[],k5,rfl,e4,by simp [Reps],s4⟩
    · rintro j σ' H' _ ⟨bs,k5,rfl,h4,rb,s'⟩
      exact SqL.of (s' _ _ hq2)
    · rintro j u σ' H5 hu ⟨bs,k5,rfl,h4,rb,s5⟩
      obtain ⟨d,hd,rd⟩:=rp.get' hu
      have htd:=lv_tups i [KM.D.tup ds] (tups_one ds) d (List.mem_of_getElem? hd)
      obtain ⟨es,rfl⟩:∃ es,d=.tup es:=by
        cases d <;> first | exact ⟨_,rfl⟩ | cases htd
      obtain ⟨a,ws,rfl,ha,rw'⟩:=rd.mono s5
      have hsz:ws.length≤sizeLine:=by
        have h1:=rw'.length
        have h2:=ok_len (ok_lv i [KM.D.tup ds] (fun x hx=>by rw [List.mem_singleton.mp hx]; exact ok) _ (List.mem_of_getElem? hd))
        rw [sizeLine_eq]
        omega
      refine ⟨_,rfl,.inl ⟨rfl,_,SqL.of h4⟩,_,rfl,a,rfl,⟨ws,SqT.of ha⟩,fun p hp=>comp_opt ws.length (pickT es ws) hp hsz (fun k H6 hk6 s6=>?_) fun H6 s6 h6=>?_⟩
      · obtain ⟨wk,hwk⟩:∃ x,ws[k]?=some x:=⟨_,List.getElem?_eq_getElem hk6⟩
        have hqa:SqT K H6 a ws:=SqT.of (s6 _ _ ha)
        refine ⟨⟨ws,wk,hqa,hwk⟩,?_⟩
        rintro x' H7 ⟨rfl,hy⟩ R R0 hR hR0
        have hx:=hy ws hqa
        rw [hwk] at hx
        cases hx
        obtain ⟨dk,hdk,rk⟩:=rw'.get' hwk
        refine ⟨_,rfl,_,_,_,_,rfl,(Rep.mono s6 rk).ty,kit_tup _ dk,_,rfl,?_⟩
        refine ite2 (fun c=>?_) (fun c=>?_)
        · exact ⟨_,rfl,hR wk H7 (by simp [pickT,hdk,c,hwk]) (Same.refl _)⟩
        · exact hR0 H7 (by simp [pickT,hdk,c]) (Same.refl _)
      · have lb:=rb.length
        have h4':=s6 _ _ h4
        have n4:q4≠p:=ne_of_none h4 hp
        have hl:(lv i [KM.D.tup ds]).take (j+1)=(lv i [KM.D.tup ds]).take j++[KM.D.tup es]:=by rw [List.take_add_one,hd]; rfl
        have hfl:((lv i [KM.D.tup ds]).take (j+1)).flatMap tk=((lv i [KM.D.tup ds]).take j).flatMap tk++es.filter isTup:=by rw [hl,List.flatMap_append]; simp [tk]
        have rpk:=reps_pick (rw'.mono s6)
        have lpk:=rpk.length
        have lfl:=flat_take_len (lv i [KM.D.tup ds]) (j+1)
        rw [← lv_succ,hfl,List.length_append] at lfl
        have lv1:(lv (i+1) [KM.D.tup ds]).length≤600*21:=by
          rw [lv_succ]
          refine Nat.le_trans (flat_len _ fun x hx=>tk_len (ok_lv i [KM.D.tup ds] (fun x hx=>by rw [List.mem_singleton.mp hx]; exact ok) x hx)) (Nat.mul_le_mul_right _ ?_)
          simp only [upto] at c
          omega
        have np:∀ vs,H6 q4≠some (.tup vs):=fun vs z=>by rw [h4'] at z; cases z
        refine ⟨⟨ws,SqT.of (s6 _ _ ha),Nat.le_refl _⟩,q4,p,_,_,rfl,rfl,h4',h6,?_,?_⟩
        · rw [lb,lpk,sizeLine_eq]
          omega
        · refine ⟨_,_,rfl,upd_same,?_,fun b o hb=>?_⟩
          · rw [hfl]
            exact Reps.monoX (SameX.upd _) np ((rb.mono s6).append rpk)
          · rw [upd_ne (ne_of_none hb hq4)]
            exact s6 _ _ (s5 _ _ hb)
    · rintro σ' H5 ⟨bs,k5,rfl,h4,rb,s5⟩
      rw [List.take_of_length_le (by omega),← lv_succ] at rb
      refine ⟨_,rfl,q4,bs,_,_,_,rfl,h4,rb,by omega,s2.trans s5⟩
  · rintro σ' H2 ⟨q2,us,k3,k4,k5,rfl,hq2,rp,hup,s2⟩
    refine ⟨_,rfl,q2,us,rfl,.inl (SqL.of hq2),_,_,rfl,rfl,?_⟩
    have e:decide ((0:Int)<((us.length:Nat):Int))=vastD (.tup ds):=by
      rw [vast_end hup,rp.length]
      simp
    show Q (.bl (decide ((0:Int)<((us.length:Nat):Int)))) H2
    rw [e]
    exact q H2 s2
end K27
end
section
namespace L3
open PySem PySem.Spec PyProof.Rows L2 KM
theorem comp_ints {J:It} {p:Addr} {H1:Hp} {g:TG} {te:TE} {b:L2.St} {C:Hp→Prop} (n:Nat) (B:Nat→Int→Prop) (hp:H1 p=none) (hn:n≤sizeLine)
    (hgo:∀ i H2,i<n→Same H1 H2→J.go i H2∧∀ x H3,J.yld i H2 x H3→∀ (R:V→Hp→Prop),(∀ (z:Int) H6,Same H2 H6→B i z→R (.int z) H6)→g x b H3 fun σ4 H4=>te σ4 H4 R)
    (hd:∀ (ns:List Int) H2,Same H1 H2→ns.length=n→(∀ (i:Nat) (z:Int),ns[i]?=some z→B i z)→H2 p=some (.lst (ns.map V.int))→J.stop n H2∧C H2) :
    ∃ W:Nat→Nat→List V→Hp→Prop,(∃ m,W 0 m [] (upd H1 p (.lst [])))∧∀ i m acc H2,W i m acc H2→(J.stop i H2∧C H2)∨(J.go i H2∧∀ x H3,J.yld i H2 x H3→g x b H3 fun σ4 H4=>tYes σ4 H4 fun ok H5 =>
      if ok=true then te σ4 H5 fun v H6=>H6 p=some (.lst acc)∧acc.length<sizeLine∧∃ m',m'<m∧W (i+1) m' (acc++[v]) (upd H6 p (.lst (acc++[v]))) else ∃ m',m'<m∧W (i+1) m' acc H5):=by
  refine comp_by (Q:=fun _ H=>C H) n (fun i acc H2=>∃ ns:List Int,acc=ns.map V.int∧ns.length=i∧(∀ (j:Nat) (z:Int),ns[j]?=some z→B j z)∧H2 p=some (.lst acc)∧Same H1 H2) ⟨[],rfl,rfl,fun j z e=>by simp at e,upd_same,same_new hp _⟩ ?_ ?_
  · rintro i acc H2 hi ⟨ns,rfl,hl,hB,h2,s2⟩
    obtain ⟨g1,g2⟩:=hgo i H2 hi s2
    refine ⟨g1,fun x H3 y=>?_⟩
    simp only [tYes,if_true]
    refine g2 x H3 y _ fun z H6 s6 hz=>⟨s6 _ _ h2,by rw [List.length_map]; omega,nx hi ⟨ns++[z],by simp,by simp [hl],fun j y e=>?_,upd_same,same_upd (s2.trans s6) hp⟩⟩
    by_cases hj:j<ns.length
    · rw [List.getElem?_append_left hj] at e
      exact hB j y e
    · rw [List.getElem?_append_right (by omega)] at e
      have:j-ns.length=0:=by
        by_cases q:j-ns.length=0
        · exact q
        · rw [List.getElem?_eq_none (by simp; omega)] at e; cases e
      rw [this] at e
      simp at e
      subst e
      have:j=i:=by omega
      rw [this]
      exact hz
  · rintro acc H2 ⟨ns,rfl,hl,hB,h2,s2⟩
    exact hd ns H2 s2 hl hB h2
end L3
namespace L3
open PySem PySem.Spec PyProof.Rows L2 KM
end L3
end
section
set_option maxHeartbeats 1000000
namespace K27
open PySem L2 L3 KM PyProof.Rows
seal L2.PE L2.PS L2.PSs L2.PT L2.PW L2.PA L2.PG L2.PGs L2.PI L2.PC L2.PO L2.PPs L2.PK L3.PIf
variable {P:Program} {w:World} {K:PySem.W.Frag} {mg:Str→Option Value} {base:Heap} {t:Adr}
theorem leaf_flat {k:Bool} {x:Str} {ps:List D} (h:wfG isStrD k (.tup (.str x::ps))=true) (hx:leafW x=true):∀ (i:Nat) (p:D),ps[i]?=some p→isTup p=false∧(numD p=true∨isStrD p=true):=by
  obtain ⟨s,h1,h2,h3,h4,h5,h6,h7,_⟩:=wf_shape h
  have hc:∀ (cs:List Nat) (qs:List D) (i:Nat),wfL isStrD cs qs=true→(∀ c∈cs,ktB c=!leafW x)→∀ p,qs[i]?=some p→isTup p=false∧(numD p=true∨isStrD p=true):=fun cs=>by
    induction cs with
    | nil =>
      intro qs i hq _ p e
      cases qs with
      | nil=>simp at e
      | cons _ _=>simp [wfL] at hq
    | cons c cs ih =>
      intro qs i hq hk p e
      cases qs with
      | nil=>simp [wfL] at hq
      | cons q qs =>
        rw [wfL_cons,Bool.and_eq_true] at hq
        cases i with
        | zero =>
          simp at e
          subst e
          have hkc:=hk c List.mem_cons_self
          rw [hx] at hkc
          have hq1:=hq.1
          unfold dueB at hq1
          rw [if_neg (fun z=>by rw [z,kt1] at hkc; cases hkc),if_neg (fun z=>by rw [z,kt2] at hkc; cases hkc)] at hq1
          split at hq1
          · exact ⟨by cases q <;> simp [numD] at hq1 <;> rfl,.inl hq1⟩
          · exact ⟨by cases q <;> simp [isStrD] at hq1 <;> rfl,.inr hq1⟩
        | succ i=>exact ih qs i hq.2 (fun c hc=>hk c (List.mem_cons_of_mem _ hc)) p (by simpa using e)
  exact fun i p e=>hc _ ps i h3 h6 p e
theorem flat_zero:∀ (ps:List D),(∀ (i:Nat) (p:D),ps[i]?=some p→isTup p=false)→knotsL ps=0∧depthL ps=0
  | [],_=>⟨rfl,rfl⟩
  | p::ps,h=>by
    obtain ⟨h1,h2⟩:=flat_zero ps fun i q e=>h (i+1) q (by simpa using e)
    have h0:=h 0 p rfl
    have e1:knots p=0:=by cases p <;> first | rfl | simp [isTup] at h0
    have e2:depth p=0:=by cases p <;> first | rfl | simp [isTup] at h0
    simp [knotsL,depthL,h1,h2,e1,e2]
theorem knotsL_sum:∀ ps:List D,knotsL ps=(ps.map knots).sum
  | []=>rfl
  | p::ps=>by simp [knotsL,knotsL_sum ps]
theorem depthL_max:∀ ps:List D,depthL ps=maxN (ps.map depth)
  | []=>rfl
  | p::ps=>by rw [depthL,depthL_max ps]; rfl
theorem knots_kids {k:Bool} {x:Str} {ps:List D} (h:wfG isStrD k (.tup (.str x::ps))=true):knots (.tup (.str x::ps))=1+((kidsD x ps).map knots).sum∧depth (.tup (.str x::ps))=1+maxN ((kidsD x ps).map depth):=by
  rw [← knotsL_sum,← depthL_max]
  have e1:knots (.tup (.str x::ps))=1+knotsL ps:=by simp [knots,knotsL]
  have e2:depth (.tup (.str x::ps))=1+depthL ps:=by simp [depth,depthL]
  rw [e1,e2]
  unfold kidsD
  by_cases hx:leafW x=true
  · obtain ⟨z1,z2⟩:=flat_zero ps fun i p e=>(leaf_flat h hx i p e).1
    rw [if_pos hx,z1,z2]
    exact ⟨rfl,rfl⟩
  · rw [if_neg hx]
    exact ⟨rfl,rfl⟩
structure Rz (d:D) (n:Nat):Prop where
  wf:Wf d
  dp:depth d<n
  kn:0≤knots d
theorem Rz.kid {n:Nat} {x:Str} {ps:List D} {i:Nat} {p:D} (h:Rz (.tup (.str x::ps)) (n+1)) (e:(kidsD x ps)[i]?=some p):Rz p n:=by
  obtain ⟨k,wf⟩:=h.wf
  obtain ⟨w1,w2⟩:=wf_kid wf e
  have hd:=h.dp
  exact ⟨w1,by omega,Nat.zero_le _⟩
structure Rs (d:D) (n:Nat):Prop where
  wf:Wf d
  dp:depth d<n
  kn:knots d≤8000000
mutual
def bigD:D→Bool
  | .int i=>decide (99<i)
  | .tup ds=>bigL ds
  | _=>false
def bigL:List D→Bool
  | []=>false
  | d::ds=>bigD d || bigL ds
end
theorem bigL_of {ds:List D}:∀ {ns:List Int},ns.length=ds.length→(∀ (i:Nat) (z:Int),ns[i]?=some z→decide (99<z)=bigD ((ds[i]?).getD .non))→bigL ds=ns.any fun z=>decide (99<z):=by
  induction ds with
  | nil =>
    intro ns h _
    cases ns with
    | nil=>rfl
    | cons _ _=>simp at h
  | cons d ds ih =>
    intro ns h hB
    cases ns with
    | nil=>simp at h
    | cons z ns =>
      rw [bigL,List.any_cons,ih (by simpa using h) (fun i z e=>by simpa using hB (i+1) z (by simpa using e)),hB 0 z rfl]
      rfl
theorem any_max (b:Int):∀ (ns:List Int) (d:Int),d≤b→decide (b<maxD ns d)=ns.any fun z=>decide (b<z)
  | [],d,h=>by
    show decide (b<d)=false
    exact decide_eq_false (by omega)
  | a :: r, d, _ => by
    show decide (b<r.foldl mxI a)=_
    rw [List.any_cons]
    induction r generalizing a with
    | nil=>exact (Bool.or_false _).symm
    | cons c r ih =>
      rw [List.foldl_cons,ih,List.any_cons,← Bool.or_assoc]
      congr 1
      unfold mxI
      by_cases h1:b<a <;> by_cases h2:b<c <;> simp [h1,h2] <;> split <;> omega
theorem leaf_big {x:Str} {ps:List D} {k:Bool} (wf:wfG isStrD k (.tup (.str x::ps))=true) (hx:leafW x=true) (hv:x ≠ "var"):∀ (i:Nat) (p:D),ps[i]?=some p→bigD p=false:=fun i p e=>by
  have hx:x = "name" := by
    unfold leafW at hx
    simp [hv] at hx
    exact hx
  subst hx
  obtain ⟨sh,e1,_,e3,_,e5,_⟩:=wf_shape wf
  rw [shape_name] at e1
  cases e1
  rw [len_w] at e3 e5
  cases ps with
  | nil=>simp at e
  | cons p0 rest=>cases rest with
    | cons _ _=>simp at e5
    | nil =>
      rw [wfL_cons,Bool.and_eq_true] at e3
      have hn:isStrD p0=true:=by simpa [dueB] using e3.1
      cases i with
      | succ i=>simp at e
      | zero =>
        simp at e
        subst e
        cases p0 <;> first | rfl | simp [isStrD] at hn
theorem big_end {x:Str} {ps:List D} {k:Bool} {ns:List Int} {d:Int} (wf:wfG isStrD k (.tup (.str x::ps))=true) (hv:x ≠ "var") (hd:d≤99) (hl:ns.length=(kidsD x ps).length) (hB:∀ (i:Nat) (z:Int),ns[i]?=some z→decide (99<z)=bigD (((kidsD x ps)[i]?).getD .non)):decide (99<maxD ns d)=bigD (.tup (.str x::ps)):=by
  rw [any_max 99 ns d hd,← bigL_of hl hB]
  show _=(false || bigL ps)
  rw [Bool.false_or]
  unfold kidsD
  split
  · rename_i hx
    symm
    show bigL ps=false
    have key:∀ qs:List D,(∀ p∈qs,bigD p=false)→bigL qs=false:=fun qs=>by
      induction qs with
      | nil=>intro _; rfl
      | cons q qs ih=>intro h; rw [bigL,h q List.mem_cons_self,ih fun p hp=>h p (List.mem_cons_of_mem _ hp)]; rfl
    refine key ps fun p hp=>?_
    obtain ⟨i,hi,rfl⟩:=List.mem_iff_getElem.mp hp
    exact leaf_big wf hx hv i _ (List.getElem?_eq_getElem hi)
  · rfl
def spTop (n:Nat):Sp:=fun vs H Q _=>∃ (d:D) (v:V),vs=[v]∧Rep H d v∧Rz d n∧∀ (i:Int) (H':Hp),decide (99<i)=bigD d→Same H H'→Q (.int i) H'
end K27
end
section
set_option maxHeartbeats 1000000
namespace K27
open PySem L2 L3 KM PyProof.Rows
seal L2.PE L2.PS L2.PSs L2.PT L2.PW L2.PA L2.PG L2.PGs L2.PI L2.PC L2.PO L2.PPs L2.PK L3.PIf
variable {P:Program} {w:World} {K:PySem.W.Frag} {mg:Str→Option Value} {base:Heap} {t:Adr}
theorem sc_top_variable:FnScope ["thing"] ["thing"] (defScope s_top_variable):=⟨rfl,rfl,rfl,by decide +kernel,rfl,by decide +kernel,by decide +kernel⟩
theorem st_top_variable {n:Nat} (D:Df K mg "top_variable" s_top_variable ["thing"]) (M:Mg mg t) (F_kids_of:Cal P w K mg CX0 "kids_of" (1) ["thing"] spKids) (F_top_variable:Cal P w K mg CX0 "top_variable" (n+3) ["thing"] (spTop n)):Cal P w K mg CX0 "top_variable" (n+4) ["thing"] (spTop (n+1)):=by
  refine D.ok sc_top_variable (fun vs H Q E h=>?_) (fun base f cdv A outer s H vs Q E hr h=>?_)
  · obtain ⟨d,v,rfl,_⟩:=h
    rfl
  obtain ⟨d,v,rfl,r,rz,q⟩:=h
  obtain ⟨x,ps,k,rfl,wf,hps⟩:=wf_ps rz.wf
  have hk4:=kids4 wf
  obtain ⟨a,us0,rfl,ha,v0,us0,rfl,⟨rfl,hx⟩,rp⟩:=id r
  have ea:atI (V.str x::us0) 0=some (.str x):=atI_nat (j:=0) rfl
  refine ⟨_,(pss_cons (ps_if (pt_cmpR op_eq (pe_ix ix_tup (pv 0) pe_int (fun _ _=>rfl)) pe_str (nomark _)) (pss_one (ps_ret (pe_ix ix_tup (pv 0) pe_int (fun _ _=>rfl)))) pss_nil)
      (pss_one (ps_ret (pe_maxD M.n_max (pa_cons (pe_comp (N':=["kid"]) (own:=1) (fr:=[]) rfl (blk_of (N:=["thing"]) (sc:=defScope s_top_variable) rfl rfl rfl (by decide +kernel)) (pi_list (pe_fn F_kids_of (hr.mono (by omega)) rfl pass0 (pa_cons (pv 0) pa_nil))) (own_name (by decide)) (fun _ _ _=>(pg_name (i:=0) (show List.Nodup (["kid"]:List Str) by decide +kernel) rfl (Or.inl rfl))) (fun _ _ _=>pif_nil) (fun _ _ _=>(pe_fn F_top_variable (hr.mono (by omega)) rfl pass0 (pa_cons (pv 0) pa_nil)))) pa_nil) (pk_cons pe_int pk_nil))))),?_⟩
  try dsimp only [cxK,cxK2]
  refine let2 ?_
  intro _ _
  refine ⟨_,rfl,a,_,_,_,rfl,rfl,SqT.of ha,ea,rfl,_,rfl,?_⟩
  refine ite2 (fun c=>?_) (fun c=>?_)
  · have c:V.str x=V.str "var" := of_decide_eq_true c
    cases c
    obtain ⟨sh,e1,_,e3,_,e5,_⟩:=wf_shape wf
    rw [shape_var] at e1
    cases e1
    rw [len_n] at e3 e5
    obtain ⟨p0,rfl⟩:∃ p0,ps=[p0]:=by
      cases ps with
      | nil=>simp at e5
      | cons p0 rest=>cases rest with
        | nil=>exact ⟨p0,rfl⟩
        | cons _ _=>simp at e5
    rw [wfL_cons,Bool.and_eq_true] at e3
    have hn:numD p0=true:=by simpa [dueB] using e3.1
    obtain ⟨i,rfl⟩:∃ i,p0=.int i:=by cases p0 <;> first | exact ⟨_,rfl⟩ | simp [numD] at hn
    obtain ⟨u1,us1,rfl,r1,_⟩:=rp
    cases (show u1=V.int i from r1)
    have hi:decide (99<i)=bigD (.tup [.str "var",.int i]):=by simp [bigD,bigL]
    exact ⟨_,rfl,a,_,_,.int i,rfl,rfl,SqT.of ha,atI_nat (j:=1) rfl,q i H hi (Same.refl H)⟩
  refine ⟨_,rfl,x,ps,_,rfl,r,hps,fun p1 us H1 _ s1 h1 r1=>⟨p1,rfl,⟨us,SqL.of h1⟩,fun p2 hp2=>?_⟩⟩
  have l1:=r1.length
  refine comp_ints (kidsD x ps).length (fun i z=>decide (99<z)=bigD (((kidsD x ps)[i]?).getD .non)) hp2 (Nat.le_trans hk4 (by decide)) (fun i H2 hi s2=>?_) fun ns H2 s2 hl hB h2=>⟨⟨us,SqL.of (s2 _ _ h1),by omega⟩,?_⟩
  · obtain ⟨di,hdi⟩:∃ di,(kidsD x ps)[i]?=some di:=⟨_,List.getElem?_eq_getElem hi⟩
    obtain ⟨ui,hui,rui⟩:=r1.get hdi
    refine ⟨⟨us,ui,SqL.of (s2 _ _ h1),hui⟩,?_⟩
    rintro y H3 ⟨rfl,hy⟩ R hR
    have hx:=hy us (SqL.of (s2 _ _ h1))
    rw [hui] at hx
    cases hx
    exact ⟨_,rfl,di,ui,rfl,rui.mono s2,rz.kid hdi,fun z H4 hz s4=>hR z H4 s4 (by rw [hdi]; exact hz)⟩
  · refine ⟨p2,ns,_,rfl,rfl,SqL.of h2,?_⟩
    exact q _ H2 (big_end wf (fun z=>c (by rw [z]; exact decide_eq_true rfl)) (by decide) hl hB) (s1.trans s2)
theorem c_top_variable (D:Df K mg "top_variable" s_top_variable ["thing"]) (M:Mg mg t) (F_kids_of:Cal P w K mg CX0 "kids_of" (1) ["thing"] spKids):∀ n:Nat,Cal P w K mg CX0 "top_variable" (n+3) ["thing"] (spTop n)
  | 0=>Cal.never D fun vs H Q E ⟨d,v,_,_,h,_⟩=>absurd h.dp (Nat.not_lt_zero _)
  | n+1=>st_top_variable D M F_kids_of (c_top_variable D M F_kids_of n)
def spBounded (C:Addr) (n:Nat):Sp:=fun vs H Q E=>∃ (d:D) (v:V),vs=[v]∧Rep H d v∧Rz d n∧(∀ H',Same H H'→(vastD d || bigD d)=false→Q v H')∧(∀ H',Same H H'→(vastD d || bigD d)=true→E (.ref C) none H')
theorem sc_bounded:FnScope ["thing"] ["thing"] (defScope s_bounded):=⟨rfl,rfl,rfl,by decide +kernel,rfl,by decide +kernel,by decide +kernel⟩
theorem c_bounded {n:Nat} (D:Df K mg "bounded" s_bounded ["thing"]) (M:Mg mg t) (E_Great:ExcK K t.Great) (F_is_vast:Cal P w K mg CX0 "is_vast" (1) ["value"] spVast) (F_top_variable:Cal P w K mg CX0 "top_variable" (n+3) ["thing"] (spTop n)):Cal P w K mg (CXo P w) "bounded" (n+4) ["thing"] (spBounded t.Great n):=by
  refine D.okX sc_bounded (fun vs H Q E h=>?_) (fun base f cdv A outer s H vs Q E hr h=>?_)
  · obtain ⟨d,v,rfl,_⟩:=h
    rfl
  obtain ⟨d,v,rfl,r,rz,q,qe⟩:=h
  obtain ⟨x,ps,k,rfl,wf,hps⟩:=wf_ps rz.wf
  refine ⟨_,(pss_cons (ps_if (L2.PW.pt (pw_or (pt_val (pe_fn F_is_vast (hr.mono (by omega)) rfl pass0 (pa_cons (pv 0) pa_nil))) (pw_or1 (pt_cmpR op_gt (pe_fn F_top_variable (hr.mono (by omega)) rfl pass0 (pa_cons (pv 0) pa_nil)) (pe_gint M.g_MOST_VARIABLE rfl) (nomark _))))) (pss_one (ps_raise (G:=(fun H'=>E (.ref t.Great) none H')) E_Great M.g_Great (pa_cons pe_str pa_nil) (fun pins σ H s e h' I m q=>xe_made I m q))) pss_nil)
      (pss_one (ps_ret (pv 0)))),?_⟩
  try dsimp only [cxK,cxK2]
  refine let2 ?_
  intro _ _
  refine ⟨_,rfl,_,v,rfl,r,wf_ok wf,rz.kn,fun H1 s1=>⟨_,rfl,?_⟩⟩
  refine ite2 (fun c=>iteT ⟨by decide,qe H1 s1 (by rw [c]; rfl)⟩) (fun c=>?_)
  refine ⟨_,rfl,_,v,rfl,r.mono s1,rz,fun i H2 hi s2=>⟨_,_,rfl,rfl,_,rfl,?_⟩⟩
  have c:vastD (.tup (.str x::ps))=false:=Bool.eq_false_iff.mpr c
  refine ite2 (fun c2=>⟨by decide,qe H2 (s1.trans s2) (by rw [← hi,c]; exact c2)⟩) (fun c2=>⟨_,rfl,q H2 (s1.trans s2) (by rw [← hi,c]; exact Bool.eq_false_iff.mpr c2)⟩)
def rebuiltD (x:Str) (ps qs:List D):D:=if qs=[] then .tup (.str x::ps) else .tup (.str x::qs)
def spRebuilt:Sp:=fun vs H Q _=>∃ (x:Str) (ps qs:List D) (v:V) (a:Addr) (us:List V),vs=[v,.ref a]∧Rep H (.tup (.str x::ps)) v∧H a=some (.lst us)∧Reps H qs us∧qs.length≤10∧∀ (u:V) (H':Hp),Same H H'→Rep H' (rebuiltD x ps qs) u→Q u H'
theorem sc_rebuilt:FnScope ["thing", "kids"] ["thing", "kids"] (defScope s_rebuilt):=⟨rfl,rfl,rfl,by decide +kernel,rfl,by decide +kernel,by decide +kernel⟩
theorem c_rebuilt (D:Df K mg "rebuilt" s_rebuilt ["thing", "kids"]) (M:Mg mg t):Cal P w K mg CX0 "rebuilt" (1) ["thing", "kids"] spRebuilt:=by
  refine D.ok sc_rebuilt (fun vs H Q E h=>?_) (fun base f cdv A outer s H vs Q E hr h=>?_)
  · obtain ⟨x,ps,qs,v,a,us,rfl,_⟩:=h
    rfl
  obtain ⟨x,ps,qs,v,a,us,rfl,r,ha,rq,hl,q⟩:=h
  have lq:=rq.length
  obtain ⟨b,us0,rfl,hb,v0,us0,rfl,⟨rfl,hx⟩,rp⟩:=id r
  refine ⟨_,(pss_cons (ps_if (pt_cmpR op_eq (pe_callB call_len_seq rfl M.n_len bt_len (pa_cons (pv 1) pa_nil)) pe_int (nomark _)) (pss_one (ps_ret (pv 0))) pss_nil)
      (pss_one (ps_ret (pe_op op_catU (pe_tup (pa_cons (pe_ix ix_tup (pv 0) pe_int (fun _ _=>rfl)) pa_nil)) (pe_callTy call_tuple_of rfl M.n_tuple bt_tuple (pa_cons (pv 1) pa_nil)))))),?_⟩
  try dsimp only [cxK,cxK2]
  refine let2 ?_
  intro _ _
  refine ⟨_,rfl,a,_,rfl,.inl (SqL.of ha),rfl,_,rfl,?_⟩
  refine ite2 (fun c=>?_) (fun c=>?_)
  · have c:V.int ((us.length:Nat):Int)=V.int 0:=of_decide_eq_true c
    have hq:qs=[]:=by
      injection c with c
      exact List.length_eq_zero_iff.mp (by omega)
    refine ⟨_,rfl,q _ H (Same.refl H) ?_⟩
    unfold rebuiltD
    rw [if_pos hq]
    exact r
  · have hq:qs≠[]:=fun z=>c (by
      subst z
      have:us.length=0:=lq
      rw [this]
      exact decide_eq_true rfl)
    refine ⟨_,rfl,b,_,_,_,rfl,rfl,SqT.of hb,atI_nat (j:=0) rfl,(by show 1≤sizeLine; decide),fun p1 hp1=>?_⟩
    have s1:=same_new hp1 (.tup [V.str x])
    refine ⟨_,rfl,a,us,rfl,.inl ⟨SqL.of (s1 _ _ ha),fun p2 hp2=>?_⟩⟩
    have s2:=same_new hp2 (.tup us)
    refine ⟨p1,p2,_,_,rfl,rfl,s2 _ _ upd_same,upd_same,?_,fun p3 H3 s3 h3=>?_⟩
    · rw [List.length_singleton,sizeLine_eq]; omega
    · refine q _ H3 (s1.trans (s2.trans s3)) ?_
      unfold rebuiltD
      rw [if_neg hq]
      exact ⟨p3,_,rfl,h3,_,_,rfl,⟨rfl,hx⟩,rq.mono (s1.trans (s2.trans s3))⟩
end K27
end
section
set_option maxHeartbeats 1000000
namespace K27
open PySem L2 L3 KM PyProof.Rows
seal L2.PE L2.PS L2.PSs L2.PT L2.PW L2.PA L2.PG L2.PGs L2.PI L2.PC L2.PO L2.PPs L2.PK L3.PIf
variable {P:Program} {w:World} {K:PySem.W.Frag} {mg:Str→Option Value} {base:Heap} {t:Adr}
end K27
end
section
set_option maxHeartbeats 1000000
namespace K27
open PySem L2 L3 KM PyProof.Rows
seal L2.PE L2.PS L2.PSs L2.PT L2.PW L2.PA L2.PG L2.PGs L2.PI L2.PC L2.PO L2.PPs L2.PK L3.PIf
variable {P:Program} {w:World} {K:PySem.W.Frag} {mg:Str→Option Value} {base:Heap} {t:Adr}
def isNumD (d:D):Bool:=isIntD d && !isBlD d
def spNumber:Sp:=fun vs H Q _=>∃ d v,vs=[v]∧Rep H d v∧Q (.bl (isNumD d)) H
theorem sc_is_number:FnScope ["value"] ["value"] (defScope s_is_number):=⟨rfl,rfl,rfl,by decide +kernel,rfl,by decide +kernel,by decide +kernel⟩
theorem c_is_number (D:Df K mg "is_number" s_is_number ["value"]) (M:Mg mg t):Cal P w K mg CX0 "is_number" (1) ["value"] spNumber:=by
  refine D.ok sc_is_number (fun vs H Q E h=>?_) (fun base f cdv A outer s H vs Q E hr h=>?_)
  · obtain ⟨d,v,rfl,_⟩:=h
    rfl
  obtain ⟨d,v,rfl,r,q⟩:=h
  refine ⟨_,(pss_one (ps_ret (pe_and (pe_callB call_isinst rfl M.n_isinstance bt_isinstance (pa_cons (pv 0) (pa_cons (pe_ty M.n_int bt_int rfl) pa_nil))) (pe_one (pe_not (pe_callB call_isinst rfl M.n_isinstance bt_isinstance (pa_cons (pv 0) (pa_cons (pe_ty M.n_bool bt_bool rfl) pa_nil)))))))),?_⟩
  try dsimp only [cxK,cxK2]
  refine ⟨_,rfl,_,_,_,_,rfl,r.ty,kit_int _ d,_,rfl,?_⟩
  refine ite2 (fun c=>?_) (fun c=>?_)
  · refine ⟨_,rfl,_,_,_,_,rfl,r.ty,kit_bl _ d,_,rfl,?_⟩
    have e:isNumD d=!isBlD d:=by unfold isNumD; rw [c]; rfl
    rw [e] at q
    exact q
  · have e:isNumD d=false:=by unfold isNumD; rw [Bool.eq_false_iff.mpr c]; rfl
    rw [e] at q
    exact q
def kidsOf:D→List D
  | .tup (.str x::ps)=>kidsD x ps
  | _=>[]
def kidAt (d:D) (i:Int):Option D:=if 0≤i then (kidsOf d)[i.toNat]? else none
def goto : D → List Int → Option D
  | d,[]=>some d
  | d,i::is=>match kidAt d i with
    | none=>none
    | some p=>goto p is
def headD:D→Str
  | .tup (.str x::_)=>x
  | _ => ""
def bnd (d:D) (i:Int):Int:=if decide (V.int i=overV (headD d))=true then 1 else 0
def over : D → List Int → Int
  | _,[]=>0
  | d,i::is=>match kidAt d i with
    | none=>0
    | some p=>bnd d i+over p is
theorem wf_kidAt {d p:D} {i:Int} (h:Wf d) (e:kidAt d i=some p):Wf p:=by
  obtain ⟨k,h⟩:=h
  obtain ⟨x,ps,rfl⟩:=wf_form h
  unfold kidAt at e
  split at e
  · exact (wf_kid h e).1
  · cases e
theorem goto_cons {d p:D} {i:Int} {is:List Int} (e:kidAt d i=some p):goto d (i::is)=goto p is:=by rw [goto,e]
theorem goto_stop {d:D} {i:Int} {is:List Int} (e:kidAt d i=none):goto d (i::is)=none:=by rw [goto,e]
theorem kid_some {d:D} {i:Int} (h1:0≤i) (h2:i<(kidsOf d).length):∃ p,kidAt d i=some p∧(kidsOf d)[i.toNat]?=some p:=by
  unfold kidAt
  rw [if_pos h1]
  exact ⟨_,List.getElem?_eq_getElem (by omega),List.getElem?_eq_getElem (by omega)⟩
theorem kid_none' {d:D} {i:Int} (h:¬ (0≤i∧i<(kidsOf d).length)):kidAt d i=none:=by
  unfold kidAt
  split
  · rename_i h1
    exact List.getElem?_eq_none_iff.mpr (by omega)
  · rfl
def spKidAt (C:Addr):Sp:=fun vs H Q E=>∃ (d:D) (v:V) (i:Int),vs=[v,.int i]∧Rep H d v∧Wf d∧(∀ (p:D) (u:V) (H':Hp),Same H H'→kidAt d i=some p→Rep H' p u→Q u H')∧(∀ H',Same H H'→kidAt d i=none→E (.ref C) none H')
theorem sc_kid_at:FnScope ["thing", "number", "kids"] ["thing", "number"] (defScope s_kid_at):=⟨rfl,rfl,rfl,by decide +kernel,rfl,by decide +kernel,by decide +kernel⟩
theorem c_kid_at (D:Df K mg "kid_at" s_kid_at ["thing", "number"]) (M:Mg mg t) (E_NoPlace:ExcK K t.NoPlace) (F_kids_of:Cal P w K mg CX0 "kids_of" (1) ["thing"] spKids) (F_is_number:Cal P w K mg CX0 "is_number" (1) ["value"] spNumber):Cal P w K mg (CXo P w) "kid_at" (2) ["thing", "number"] (spKidAt t.NoPlace):=by
  refine D.okX sc_kid_at (fun vs H Q E h=>?_) (fun base f cdv A outer s H vs Q E hr h=>?_)
  · obtain ⟨d,v,i,rfl,_⟩:=h
    rfl
  obtain ⟨d,v,i,rfl,r,wf,q,qe⟩:=h
  obtain ⟨x,ps,k,rfl,wfk,hps⟩:=wf_ps wf
  refine ⟨_,(pss_cons (ps_set (i:=2) sc_kid_at.nd rfl (by first | exact Or.inl rfl | exact Or.inr rfl) (pe_fn F_kids_of (hr.mono (by omega)) rfl pass0 (pa_cons (pv 0) pa_nil)))
      (pss_cons (ps_if (L2.PW.pt (pw_or (pt_not (pt_val (pe_fn F_is_number (hr.mono (by omega)) rfl pass0 (pa_cons (pv 1) pa_nil)))) (pw_or1 (pt_not (pt_chain op_le op_lt pe_int (pv 1) (pe_callB call_len_seq rfl M.n_len bt_len (pa_cons (pv 2) pa_nil))))))) (pss_one (ps_raise (G:=(fun H'=>E (.ref t.NoPlace) none H')) E_NoPlace M.g_NoPlace (pa_cons pe_str pa_nil) (fun pins σ H s e h' I m q=>xe_made I m q))) pss_nil)
      (pss_one (ps_ret (pe_ix ix_list (pv 2) (pv 1) (fun _ _=>rfl)))))),?_⟩
  try dsimp only [cxK,cxK2]
  refine let3 ?_
  intro _ _ _
  refine ⟨_,rfl,x,ps,v,rfl,r,hps,fun p1 us H1 hp1 s1 h1 r1=>?_⟩
  have l1:=r1.length
  have hk:kidsOf (.tup (.str x::ps))=kidsD x ps:=rfl
  refine ⟨_,rfl,.int i,_,rfl,rfl,?_⟩
  have bad:kidAt (.tup (.str x::ps)) i=none→E (.ref t.NoPlace) none H1:=fun z=>qe H1 s1 z
  refine ⟨true,rfl,iteF ⟨_,rfl,_,_,rfl,rfl,_,rfl,?_⟩⟩
  refine ite2 (fun c=>?_) (fun c=>?_)
  · have c:(0:Int)≤i:=of_decide_eq_true c
    refine ⟨_,rfl,p1,_,rfl,.inl (SqL.of h1),_,_,rfl,rfl,_,rfl,?_⟩
    by_cases c2:i<((us.length:Nat):Int)
    · rw [decide_eq_true c2]
      refine iteF ?_
      obtain ⟨p,e1,e2⟩:=kid_some (d:=.tup (.str x::ps)) c (by rw [hk,← l1]; exact c2)
      obtain ⟨u,hu,ru⟩:=r1.get e2
      have ei:i=((i.toNat:Nat):Int):=by omega
      exact ⟨_,rfl,_,rfl,p1,_,_,u,rfl,rfl,SqL.of h1,(by rw [ei]; exact atI_nat hu),q p u H1 s1 e1 ru⟩
    · rw [decide_eq_false c2]
      exact iteT ⟨by decide,bad (kid_none' fun z=>c2 (by rw [l1]; exact z.2))⟩
  · have c:¬ (0:Int)≤i:=of_decide_eq_false (Bool.eq_false_iff.mpr c)
    exact ⟨_,rfl,iteT ⟨by decide,bad (kid_none' fun z=>c z.1)⟩⟩
def plI (pl:List Int):D:=.tup (pl.map D.int)
theorem pl_get {H:Hp} {pl:List Int} {vs:List V} (r:Reps H (pl.map D.int) vs) {j:Nat} {i:Int} (e:pl[j]?=some i):vs[j]?=some (.int i):=by
  obtain ⟨v,h1,h2⟩:=r.get (i:=j) (d:=.int i) (by rw [List.getElem?_map,e]; rfl)
  rw [h1,show v=V.int i from h2]
theorem drop_cons {α:Type} {l:List α} {j:Nat} {i:α} (e:l[j]?=some i):l.drop j=i::l.drop (j+1):=by
  obtain ⟨h,rfl⟩:=List.getElem?_eq_some_iff.mp e
  exact List.drop_eq_getElem_cons h
def spAt (C:Addr):Sp:=fun vs H Q E=>∃ (d:D) (v:V) (pl:List Int) (pv:V),vs=[v,pv]∧Rep H d v∧Wf d∧Rep H (plI pl) pv∧(∀ (e:D) (u:V) (H':Hp),Same H H'→goto d pl=some e→Rep H' e u→Q u H')∧(∀ H',Same H H'→goto d pl=none→E (.ref C) none H')
theorem sc_at_place:FnScope ["thing", "place", "here", "number"] ["thing", "place"] (defScope s_at_place):=⟨rfl,rfl,rfl,by decide +kernel,rfl,by decide +kernel,by decide +kernel⟩
theorem c_at_place (D:Df K mg "at_place" s_at_place ["thing", "place"]) (M:Mg mg t) (F_kid_at:Cal P w K mg (CXo P w) "kid_at" (2) ["thing", "number"] (spKidAt t.NoPlace)):Cal P w K mg (CXo P w) "at_place" (3) ["thing", "place"] (spAt t.NoPlace):=by
  refine D.okX sc_at_place (fun vs H Q E h=>?_) (fun base f cdv A outer s H vs Q E hr h=>?_)
  · obtain ⟨d,v,pl,pv,rfl,_⟩:=h
    rfl
  obtain ⟨d,v,pl,pv,rfl,r,wf,rp,q,qe⟩:=h
  obtain ⟨a,ws,rfl,ha,rw'⟩:=rp
  have lw:=rw'.length
  rw [List.length_map] at lw
  refine ⟨_,(pss_cons (ps_set (i:=2) sc_at_place.nd rfl (by first | exact Or.inl rfl | exact Or.inr rfl) (pv 0))
      (pss_cons (ps_for own_o rfl (pi_tup (pv 1)) (pg_name (i:=3) sc_at_place.nd rfl (by first | exact Or.inl rfl | exact Or.inr rfl)) (pss_one (ps_set (i:=2) sc_at_place.nd rfl (by first | exact Or.inl rfl | exact Or.inr rfl) (pe_fn F_kid_at (hr.mono (by omega)) rfl passes_o (pa_cons (pv 2) (pa_cons (pv 3) pa_nil))))))
      (pss_one (ps_ret (pv 2))))),?_⟩
  try dsimp only [cxK,cxK2]
  refine let3 ?_
  intro _ _ _
  refine ⟨_,rfl,_,rfl,a,rfl,⟨_,SqT.of ha⟩,?_⟩
  let Ifr:Nat→L2.St→Hp→Prop:=(fun j σ' H'=>∃ (e:KM.D) (u:V) (nv:Option V),σ'=[some v,some (.ref a),some u,nv]∧Rep H' e u∧Wf e∧goto d pl=goto e (pl.drop j)∧Same H H')
  refine for_by ws.length Ifr ?_ ?_ ?_
  · exact ⟨d,v,none,rfl,r,wf,rfl,Same.refl _⟩
  · rintro j σ' H1 hj ⟨e,u,nv,rfl,re,we,hg,s1⟩
    obtain ⟨i,hi⟩:∃ i,pl[j]?=some i:=⟨_,List.getElem?_eq_getElem (by omega)⟩
    have hw:=pl_get rw' hi
    refine ⟨⟨ws,_,SqT.of (s1 _ _ ha),hw⟩,?_⟩
    rintro x' H2 ⟨rfl,hy⟩
    have hy:=hy ws (SqT.of (s1 _ _ ha))
    rw [hw] at hy
    cases hy
    rw [drop_cons hi] at hg
    refine ⟨_,rfl,_,rfl,e,u,i,rfl,re,we,fun p u' H' s' ek rk=>?_,fun H' s' ek=>?_⟩
    · exact ⟨p,u',_,rfl,rk,wf_kidAt we ek,by rw [hg,goto_cons ek],s1.trans s'⟩
    · exact qe H' (s1.trans s') (by rw [hg,goto_stop ek])
  · rintro σ' H1 ⟨e,u,nv,rfl,re,we,hg,s1⟩
    rw [lw,List.drop_length] at hg
    exact ⟨⟨ws,SqT.of (s1 _ _ ha),Nat.le_refl _⟩,_,rfl,q e u H1 s1 hg re⟩
end K27
end
section
namespace L3
open PySem PySem.Spec PyProof.Rows L2
theorem ps_setC {X:Cx} {ix:Nat} {x:Str} {pos' apos:Pos} {tg iter elt:Expr} {ifs:List Expr} {scope:Scope} {pos:Pos} {wi:TI} {g:TG} {tt:TT} {te:TE} {N':List Str} {own:Nat} {fr:List Nat} (hN:X.N.Nodup) (hix:X.N[ix]?=some x) (hlx:X.env.scope.names.lookup x=some .local) (hc:X.calm=true)
    (S:BlkScope X N' own fr scope) (hi:PI X tg iter wi) (ho:Own own g) (hg:∀ s3 H3 fp,PG (blkCx X N' scope s3 H3 fp) tg g) (hf:∀ s3 H3 fp,PIf (blkCx X N' scope s3 H3 fp) ifs tt) (he:∀ s3 H3 fp,PE (blkCx X N' scope s3 H3 fp) elt te)
    (hsw:swapsWithSole [.Name x pos'] (.ListComp elt [⟨tg,iter,ifs,0⟩] scope pos) apos.line X.env=pure true:=by rfl)
    (hs:∀ x,foldedSetIterable iter X.env x=pure x:=by intro _; rfl):PS X (.Assign [.Name x pos'] (.ListComp elt [⟨tg,iter,ifs,0⟩] scope pos) apos) (tAsg (tComp own fr wi g tt te) (gName ix)):=by
  intro pins s σ H D I h
  have hcs:∀ x∈scope.names,x.2=.free→∃ c,X.env.cells.lookup x.1=some c:=fun x hx e=>I.ok.has x.1 (S.free x hx e)
  rw [exec_Assign_arm]
  refine wpAny_bind (wpAny_standAt (wpAny_bind (wpAny_of_eq hsw ?_)))
  rw [if_pos rfl,arm_evalThenUse_ListComp]
  refine wpAny_bind (wpAny_bind (wpAny_mono (Q:=fun _ s'=>SP X pins D .next s') ?_ (fun _ s' q=>wpAny_pure (wpAny_pure q)) fun _ _ z=>z))
  refine wpAny_comprehension_free (use:=some _) (Q:=fun _ s'=>SP X pins D .next s') rfl hs (closedC_eq hcs) S.kind S.loc ?_
  refine thn (hi pins s σ H _ I h) fun v s1 h1=>thn h1 fun itv s2 h2=>?_
  obtain ⟨it,fp,tn,J,H2,e,I2,T,st2,f2,h2⟩:=h2
  subst e
  refine wpAny_newObj_type (hd:=by size_fits) (wpAny_newFunctionEnv S.nocell (by intro y hy; simp at hy) (fun h4 hns hsb=>?_) S.kind)
  have hp0:=I2.hok.fresh (Nat.le_refl s2.heap.objs.size)
  obtain ⟨W,⟨m0,w0⟩,turn⟩:=h2 _ hp0
  have I3:Inv X pins σ (upd H2 s2.heap.objs.size (.lst [])) { s2 with heap:=s2.heap.push { cls:=.type "list",dict:=none,data:=.seq ([]:List Value).toArray },toks:=s2.toks }:=I2.lnew .nil (Nat.zero_le _)
  have lt2:∀ b∈fp,b<s2.heap.objs.size:=fun b hb=>let ⟨o,e,_⟩:=T.obj _ _ st2 b hb; Heap.lt_size e
  have up2:∀ b o,s2.heap.get? b=some o→∀ ob:Obj,(s2.heap.push ob).get? b=some o:=fun b o e ob=>Heap.get?_push_of_some _ e
  have sz3:(s2.heap.push { cls:=.type "list",dict:=none,data:=.seq ([]:List Value).toArray }).objs.size=s2.heap.objs.size+1:=Heap.size_push ..
  revert hns hsb I3
  generalize e3:s2.heap.push { cls:=.type "list",dict:=none,data:=.seq ([]:List Value).toArray }=h3 at sz3 ⊢
  intro hns hsb I3
  have keep:∀ b o,h3.get? b=some o→h4.get? b=some o:=fun b o e=>(hsb.2 b (Nat.ne_of_lt (Heap.lt_size e))).trans (Heap.get?_push_of_some _ e)
  have fp3:∀ b∈fp,FpOk X pins (upd H2 s2.heap.objs.size (.lst [])) b∧b<h3.objs.size:=fun b hb=>by
    refine ⟨⟨?_,(f2 b hb).2⟩,by rw [sz3]; exact Nat.lt_succ_of_lt (lt2 b hb)⟩
    rw [upd_ne (Nat.ne_of_lt (lt2 b hb))]
    exact (f2 b hb).1
  have I4:=blk_inv (t4:=s2.toks+([]:List (Str×Value)).length) S I3 fp3 keep hns
  have tn4:tn 0 h4:=T.keep _ _ _ st2 fun b hb o e=>keep b o (by rw [← e3]; exact up2 b o e _)
  have stat:∀ {H':Hp},(∀ b∈fp,H' b=none)→∀ b∈fp,FpOk (blkCx X N' scope { s2 with heap:=h3,toks:=s2.toks } (upd H2 s2.heap.objs.size (.lst [])) fp) [] H' b:=fun {H'} hn b hb =>
    ⟨hn b hb,Nat.ne_of_lt (fp3 b hb).2,fun z=>I4.ok.exfs b hb z,.inl hb,(I4.ok.exf b hb).2,fun p hp=>(f2 b hb).2.2.2.2.2 p (List.mem_append_left _ (by simpa using hp))⟩
  have loop:∀ sx:Shared,Inv (blkCx X N' scope { s2 with heap:=h3,toks:=s2.toks } (upd H2 s2.heap.objs.size (.lst [])) fp) [] (blkSt own fr σ) (upd H2 s2.heap.objs.size (.lst [])) sx→tn 0 sx.heap →
      codeAny (model X.prog X.w) X.A (.compLoop (.ListComp elt [⟨tg,iter,ifs,0⟩] scope pos) 0 (.ref it) (.ref s2.heap.objs.size) (blkEnv X scope h3.objs.size)) (compPost (model X.prog X.w) X.A X.xe (some fun v=>assignAll v ((assignEach [.Name x pos'] X.env).map (·.2))) (fun _ s'=>SP X pins D .next s') (.ref s2.heap.objs.size) h3.objs.size) sx:=by
    intro sx Ix tx
    refine compLoop_go (fun n s'=>∃ i acc H',Inv (blkCx X N' scope { s2 with heap:=h3,toks:=s2.toks } (upd H2 s2.heap.objs.size (.lst [])) fp) [] (blkSt own fr σ) H' s'∧tn i s'.heap∧(∀ b∈fp,H' b=none)∧W i n acc H') ?_ m0 ⟨0,[],_,Ix,tx,fun b hb=>(fp3 b hb).1.1,w0⟩
    rintro n s5 ⟨i,acc,H5,I5,st5,fr5,w5⟩
    rcases turn i n acc H5 w5 with ⟨stop,qn⟩ | ⟨go,step⟩
    · refine thn (T.done (blkCx X N' scope { s2 with heap:=h3,toks:=s2.toks } (upd H2 s2.heap.objs.size (.lst [])) fp) rfl rfl rfl hc i [] s5 _ H5 (fun _ _=>False) I5 (stat fr5) st5 stop) fun r s6 ⟨hr,I6⟩=>?_
      subst hr
      obtain ⟨m6,hm6,_⟩:=id I6.loc
      have I7:Inv X pins σ H5 s6:=I3.call' (s':=s6) (ch:=fp) I6.os (un_sameBut (h2:=s6.heap) I6.base (Nat.le_refl _) ⟨rfl,fun _ _=>rfl⟩) I6.hok I6.bare fun b hb=>⟨(f2 b hb).2.2.2.1,(f2 b hb).2.1,(f2 b hb).2.2.2.2.1,(f2 b hb).2.2.2.2.2⟩
      show wpAny _ _ (assign (.Name x pos') X.env (.ref s2.heap.objs.size)) _ _ _
      refine wpAny_assign_Name (store_ok2 (v:=.ref s2.heap.objs.size) I7 hN hix (.inl hlx) rfl (fun s8 I8 ⟨a8,sb8,ha8⟩=>?_) (.inr hlx))
      have ltc:∀ y c,X.env.cells.lookup y=some c→c<h3.objs.size:=fun y c e=>by
        obtain ⟨v,o,eo,_⟩:=I3.cell y c e
        exact Heap.lt_size eo
      have na8:h3.objs.size≠a8:=by
        rcases ha8 with z | z
        · rw [z]; exact Nat.ne_of_gt I3.lt
        · exact Nat.ne_of_gt (ltc _ _ z)
      obtain ⟨o6,es6,ep6,ho6,r6⟩:=hm6
      refine ⟨m6,⟨o6,es6,ep6,(sb8.2 _ na8).trans ho6,r6⟩,fun h9 hs9=>?_⟩
      have I9:=I8.turned (h':=h9) (t':=s8.toks) (it:=h3.objs.size) (fun b o hb e=>(hs9.2 b hb).trans e) I6.free (Nat.ne_of_gt I3.lt) (.inr I3.sz) (fun y c e=>Nat.ne_of_lt (ltc y c e)) fun p hp=>Nat.ne_of_lt (Heap.lt_size (I3.pin p hp).1)
      exact ⟨_,H5,I9,qn⟩
    · refine thn (T.item (blkCx X N' scope { s2 with heap:=h3,toks:=s2.toks } (upd H2 s2.heap.objs.size (.lst [])) fp) rfl rfl rfl hc i [] s5 _ H5 (fun _ _=>False) I5 (stat fr5) st5 go) fun r s6 ⟨u,hr,h6⟩=>?_
      subst hr
      refine thn h6 fun _ s7 ⟨x,H7,I7,r7,y7,st7,fr7⟩=>?_
      have I7':=I7.pinned (stat fr7) (T.obj _ _ st7)
      refine thn (hg _ _ _ _ s7 _ H7 x u _ I7' r7 (ho _ _ _ _ (step x H7 y7))) fun _ s8 ⟨σ8,H8,I8,q8,l8,k8⟩=>?_
      have again:∀ {H9:Hp} {s9:Shared},Inv (blkCx X N' scope { s2 with heap:=h3,toks:=s2.toks } (upd H2 s2.heap.objs.size (.lst [])) fp) ([]++pinsAt fp s7.heap) σ8 H9 s9 →
          Inv (blkCx X N' scope { s2 with heap:=h3,toks:=s2.toks } (upd H2 s2.heap.objs.size (.lst [])) fp) [] (blkSt own fr σ) H9 s9∧tn (i+1) s9.heap∧∀ b∈fp,H9 b=none:=fun {H9 s9} I9=>by
        refine ⟨I9.unpinned.weak l8.symm fun j v e=>?_,T.keep _ _ _ st7 fun b hb o e=>(I9.pin (b,o) (List.mem_append_right _ (List.mem_append_right _ (mem_pinsAt hb e)))).1,fun b hb=>?_⟩
        · have hj:own≤j:=by
            refine Nat.le_of_not_lt fun z=>?_
            unfold blkSt at e
            rw [List.getElem?_append_left (by simpa using z),List.getElem?_replicate] at e
            split at e <;> cases e
          rw [k8 j hj]
          exact e
        · obtain ⟨o,e,_⟩:=T.obj _ _ st7 b hb
          exact (I9.pin (b,o) (List.mem_append_right _ (List.mem_append_right _ (mem_pinsAt hb e)))).2.1
      refine thn (hf _ _ _ _ s8 σ8 H8 _ I8 q8) fun ok s9 ⟨H9,I9,q9⟩=>?_
      cases ok with
      | false =>
        obtain ⟨m',hm',w9⟩:=q9
        obtain ⟨a1,a2,a3⟩:=again I9
        exact ⟨m',hm',i+1,acc,H9,a1,a2,a3,w9⟩
      | true =>
        refine thn (he _ _ _ _ s9 σ8 H9 _ I9 q9) fun y s10 ⟨v,H10,I10,r10,hD10,hl10,m',hm',w10⟩=>?_
        refine thn (mt_append _ s10 σ8 H10 (.ref s2.heap.objs.size) [v] (.ref s2.heap.objs.size) [y] (fun _ Hn=>Hn=upd H10 s2.heap.objs.size (.lst (acc++[v]))) I10 rfl (.cons r10 .nil) ⟨_,acc,v,rfl,rfl,hD10,hl10,rfl⟩) fun _ s11 ⟨_,H11,I11,_,e11⟩=>?_
        subst e11
        obtain ⟨a1,a2,a3⟩:=again I11
        exact ⟨m',hm',i+1,acc++[v],_,a1,a2,a3,w10⟩
  exact codeAny_compStart_list (loop _ I4 tn4) (wpAny_mono (T.self X.A 0 _ (fun v s'=>v=.ref it∧s'=_) (fun _ _=>False) tn4 ⟨rfl,rfl⟩) (fun v s' ⟨e1,e2⟩=>by subst e1; subst e2; exact loop _ I4 tn4) fun _ _ f=>f.elim)
end L3
end
section
namespace L3
open PySem PySem.Spec PyProof.Rows L2 KM
end L3
end
section
set_option maxHeartbeats 1000000
namespace K27
open PySem L2 L3 KM PyProof.Rows
def putD:D→List Int→D→D
  | _,[],e=>e
  | .tup (.str x::ps),i::is,e=>.tup (.str x::ps.set i.toNat (putD ((ps[i.toNat]?).getD .non) is e))
  | d,_::_,_=>d
theorem kid_facts {x:Str} {ps:List D} {i:Int} {p:D} (h:kidAt (.tup (.str x::ps)) i=some p):0≤i∧leafW x=false∧ps[i.toNat]?=some p:=by
  unfold kidAt at h
  split at h
  · rename_i h0
    have h:(kidsD x ps)[i.toNat]?=some p:=h
    unfold kidsD at h
    split at h
    · simp at h
    · rename_i hx
      exact ⟨h0,by simpa using hx,h⟩
  · cases h
theorem put_cons {x:Str} {ps:List D} {i:Int} {is:List Int} {p e:D} (h:kidAt (.tup (.str x::ps)) i=some p):putD (.tup (.str x::ps)) (i::is) e=.tup (.str x::ps.set i.toNat (putD p is e)):=by
  rw [putD,(kid_facts h).2.2]
  rfl
theorem knots_set {q:D}:∀ {ps:List D} {i:Nat} {p:D},ps[i]?=some p→knotsL (ps.set i q)+knots p=knotsL ps+knots q
  | [],_,_,e=>by simp at e
  | a::ps,0,p,e=>by
    simp at e
    subst e
    rw [List.set_cons_zero]
    simp only [knotsL]
    omega
  | a::ps,i+1,p,e=>by
    rw [List.set_cons_succ]
    have:=knots_set (q:=q) (ps:=ps) (i:=i) (p:=p) (by simpa using e)
    simp only [knotsL]
    omega
theorem depth_set {q:D} {m:Nat} (hq:depth q≤m):∀ {ps:List D} {i:Nat},depthL ps≤m→depthL (ps.set i q)≤m
  | [],_,h=>by simpa using h
  | a::ps,0,h=>by
    rw [List.set_cons_zero]
    simp only [depthL] at h ⊢
    omega
  | a::ps,i+1,h=>by
    rw [List.set_cons_succ]
    simp only [depthL] at h ⊢
    have:=depth_set (q:=q) (m:=m) hq (ps:=ps) (i:=i) (by omega)
    omega
theorem put_size {e g:D}:∀ (pl:List Int) (d:D),Wf d→goto d pl=some g→knots (putD d pl e)≤knots d+knots e∧depth (putD d pl e)≤depth d+depth e
  | [],d,_,_=>by
    rw [putD]
    omega
  | i :: is, d, ⟨k, h⟩, z => by
    obtain ⟨x,ps,rfl⟩:=wf_form h
    cases ek:kidAt (.tup (.str x::ps)) i with
    | none=>rw [goto_stop ek] at z; cases z
    | some p =>
      rw [goto_cons ek] at z
      rw [put_cons ek]
      obtain ⟨i0,hx,hp⟩:=kid_facts ek
      obtain ⟨a1,a2⟩:=put_size (e:=e) is p (wf_kidAt ⟨k,h⟩ ek) z
      have b1:=knots_set (q:=putD p is e) hp
      have b2:=depth_get hp
      have b3:=depth_set (q:=putD p is e) (m:=depthL ps+depth e) (by omega) (ps:=ps) (i:=i.toNat) (by omega)
      simp only [knots,knotsL,depth,depthL]
      omega
def toI (pl:List Nat):List Int:=pl.map fun n:Nat=>(n:Int)
theorem goto_append:∀ (pl qs:List Int) (d g:D),goto d pl=some g→goto d (pl++qs)=goto g qs
  | [],qs,d,g,h=>by
    cases h
    rfl
  | i :: is, qs, d, g, h => by
    cases ek:kidAt d i with
    | none=>rw [goto_stop ek] at h; cases h
    | some p =>
      rw [goto_cons ek] at h
      rw [List.cons_append,goto_cons ek]
      exact goto_append is qs p g h
end K27
end
section
namespace L3
open PySem PySem.Spec PyProof.Rows L2 KM
section
variable {X:Cx}
theorem call_max2 (hh:X.A.handled=none):CallR X (.builtin "max") (fun xs H Q=>∃ i j:Int,xs=[.int i,.int j]∧Q (.int (if j>i then j else i)) H):=by
  intro pins s σ H xs us Q I r h
  obtain ⟨i,j,rfl,q⟩:=h
  obtain ⟨u1,u2,rfl,r1,r2⟩:=Vals.two r
  obtain ⟨t1,rfl⟩:=(show ∃ t,u1=Value.int i t from r1)
  obtain ⟨t2,rfl⟩:=(show ∃ t,u2=Value.int j t from r2)
  refine max_two_ints hh fun h' tk hk=>⟨.int (if j>i then j else i),H,I.kept (h':=h') (t':=tk) hk,?_,q⟩
  split
  · exact ⟨_,rfl⟩
  · exact ⟨_,rfl⟩
end
section
variable {X:Cx} {pins:List (Addr×Obj)} {σ:L2.St} {H:Hp} {s:Shared} {a:Addr} {D:List (Str×V)} {k:Str} {tk:Tok} {A:Around} {E:Value→Shared→Prop}
theorem tab_get2 {Q:Value→Shared→Prop} {x:V} {u0:Value} (T:TabK X.K a D) (I:Inv X pins σ H s) (rx:RelV x u0) (h:∀ w',RelV ((KTD.datumAt k D).getD x) w'→Q w' { s with toks:=s.toks+1 }):wpAny (model X.prog X.w) A (call (.builtin "dict.get") [.ref a,.str k tk,u0]) Q E s:=by
  have ty:=T.typeIs I
  refine wpAny_call_entry PySem.F.slot_dict_get ty PySem.F.entry_dict_get ?_ (PySem.F.args_dict_get_3 _ _ _)
  show wpAny (model X.prog X.w) _ (dictGet a (.str k tk) >>= _) _ _ s
  refine wpAny_bind (tab_get T I (fun v u e r=>?_) fun hn=>?_)
  · have h:=h u (by rw [e]; exact r)
    exact wpAny_pure ⟨u,rfl,h⟩
  · have h:=h u0 (by rw [hn]; exact rx)
    refine wpAny_bind ?_
    unfold Builtin.Dict.missed
    rw [T.sys]
    simp only [Bool.false_eq_true,if_false]
    exact wpAny_pure (wpAny_pure ⟨_,rfl,h⟩)
end
def tTGet2 (K:PySem.W.Frag) (td ty tx:TE):TE:=fun σ H Q=>td σ H fun x H1=>∃ a D,x=.ref a∧TabK K a D∧ty σ H1 fun y H2=>tx σ H2 fun z H3=>∃ k,y=.str k∧Q ((KTD.datumAt k D).getD z) H3
theorem pe_tget2 {X:Cx} {o e f:Expr} {apos cpos:Pos} {td ty tx:TE} (ho:PE X o td) (he:PE X e ty) (hf:PE X f tx) (m:M2 X o "get" apos e f cpos):PE X (.Call (.Attribute o "get" apos) [e,f] [] cpos) (tTGet2 X.K td ty tx):=by
  intro pins s σ H Q I h
  refine wpAny_Call_method m.base m.few m.line PySem.F.plainAttrs_dict PySem.F.slot_dict_get PySem.F.type_dict_get (thn (ho pins s σ H _ I h) fun u s1 ⟨x,H1,I1,rx,a,D,ex,T,q1⟩=>?_)
  subst ex
  obtain rfl:u=Value.ref a:=rx
  have t1:=T.typeIs I1
  refine ⟨t1,fun b q=>?_,?_⟩
  · cases q
    obtain ⟨o,_,_,e,x,_⟩:=T.ex
    exact ⟨o,I1.kIn a o e,x.2.1⟩
  rw [m.trees]
  refine Calls.callWith_builtin rfl (Calls.evalArgs_plain (Calls.spliced_cons (thn (he pins s1 σ H1 _ I1 q1) fun iv s2 ⟨y,H2,I2,ry,q2⟩ =>
    Calls.spliced_cons (thn (hf pins s2 σ H2 _ I2 q2) fun fv s3 ⟨z,H3,I3,rz,k,ey,q3⟩=>Calls.spliced_nil ?_))))
  subst ey
  obtain ⟨t,rfl⟩:=ry
  exact tab_get2 T I3 rz fun w' r=>⟨_,H3,I3.tok _,r,q3⟩
theorem vals_refs:∀ (bs:List Addr),Vals (bs.map V.ref) (bs.map Value.ref)
  | []=>.nil
  | b::bs=>.cons rfl (vals_refs bs)
theorem sqr_mk {K:PySem.W.Frag} {a:Addr} {d:Option Addr} {its:Array Value} {n:Nat} {sl:Array (Option Value)} (bs:List Addr) (h:K.lookup a=some ⟨.type "tuple",d,.seq its n,sl⟩) (e:its.toList=bs.map Value.ref) (hl:bs.length≤100:=by decide):SqK K a (bs.map V.ref):=by
  refine ⟨_,its,n,h,rfl,rfl,?_,by rw [e]; exact vals_refs bs⟩
  have h2:=congrArg List.length e
  rw [Array.length_toList,List.length_map] at h2
  rw [h2]
  exact Nat.le_trans hl (by decide)
theorem tabr_mk {K:PySem.W.Frag} {a:Addr} {es:Array DictEntry} {ep:Nat} (ks:List Str) (as:List Addr) (sy:(a==sysModules)=false) (lk:K.lookup a=some ⟨.type "dict",none,.dict es ep,#[]⟩) (c:rowsChk es.toList ks=true) (rf:refsOf es.toList=as):TabK K a ((ks.zip as).map fun p=>(p.1,V.ref p.2)):=by
  refine ⟨sy,_,es,ep,lk,⟨rfl,rfl,rfl⟩,rfl,?_⟩
  have h:=rows_of c
  rw [rf] at h
  exact h
end L3
end
section
namespace L3
open PySem PySem.Spec PyProof.Rows L2 KM
mutual
def pyD:D→PyData
  | .non=>.none
  | .bl b=>.bool b
  | .int i=>.int i
  | .str x=>.str x
  | .tup ds=>.tuple (pyL ds)
def pyL:List D→List PyData
  | []=>[]
  | d::ds=>pyD d::pyL ds
end
mutual
theorem py_depth:∀ d:D,(pyD d).depth≤depth d
  | .non=>Nat.zero_le _
  | .bl _=>Nat.zero_le _
  | .int _=>Nat.zero_le _
  | .str _=>Nat.zero_le _
  | .tup ds=>by
    show PyData.depthAll (pyL ds)+1≤1+depthL ds
    have:=py_depthL ds
    omega
theorem py_depthL:∀ ds:List D,PyData.depthAll (pyL ds)≤depthL ds
  | []=>Nat.zero_le _
  | d::ds=>by
    show max (pyD d).depth (PyData.depthAll (pyL ds))≤max (depth d) (depthL ds)
    have h1:=py_depth d
    have h2:=py_depthL ds
    omega
end
section
variable {X:Cx} {pins:List (Addr×Obj)} {σ:L2.St} {H:Hp} {s:Shared}
mutual
theorem rep_reads (I:Inv X pins σ H s):∀ {d:D} {v:V} {u:Value},Rep H d v→RelV v u→∃ as,Reads s.heap u (pyD d) as
  | .non,_,u,r,ru=>by
    have r:_=V.non:=r
    subst r
    cases (show u=Value.none from ru)
    exact ⟨_,.none⟩
  | .bl b,_,u,r,ru=>by
    have r:_=V.bl b:=r
    subst r
    cases (show u=Value.bool b from ru)
    exact ⟨_,.bool b⟩
  | .int i,_,u,r,ru=>by
    have r:_=V.int i:=r
    subst r
    obtain ⟨t,rfl⟩:=(show ∃ t,u=Value.int i t from ru)
    exact ⟨_,.int i t⟩
  | .str x,_,u,r,ru=>by
    have r:_=V.str x:=r.1
    subst r
    obtain ⟨t,rfl⟩:=(show ∃ t,u=Value.str x t from ru)
    exact ⟨_,.str x t⟩
  | .tup ds,_,u,r,ru=>by
    obtain ⟨a,vs,e,ha,rs⟩:=r
    subst e
    cases (show u=Value.ref a from ru)
    obtain ⟨its,rv,⟨o,ho,hc,n,hd⟩,_⟩:=I.tuple (SqT.of (K:=X.K) ha)
    obtain ⟨as,h⟩:=reps_reads I rs rv
    exact ⟨as,.tuple ho hc hd (by simpa using h)⟩
theorem reps_reads (I:Inv X pins σ H s):∀ {ds:List D} {vs:List V} {us:List Value},Reps H ds vs→Vals vs us→∃ as,ReadsAll s.heap us (pyL ds) as
  | [],_,us,r,rv=>by
    have r:_=[]:=r
    subst r
    cases rv
    exact ⟨_,.nil⟩
  | d :: ds, _, us, ⟨v, r, e, q, t⟩, rv => by
    subst e
    cases rv with
    | cons a b =>
      obtain ⟨as,h1⟩:=rep_reads I q a
      obtain ⟨bs,h2⟩:=reps_reads I t b
      exact ⟨_,.cons h1 h2⟩
end
end
mutual
def cmpD:D→Bool
  | .non=>true
  | .bl _=>false
  | .int _=>true
  | .str x=>(PyData.str x).canLay0
  | .tup ds=>cmpL ds
def cmpL:List D→Bool
  | []=>true
  | d::ds=>cmpD d && cmpL ds
end
mutual
theorem cmp_lay:∀ d:D,cmpD d=true→(pyD d).canLay0=true
  | .non,_=>rfl
  | .bl _,h=>by cases h
  | .int _,_=>rfl
  | .str x,h=>h
  | .tup ds,h=>cmp_layL ds h
theorem cmp_layL:∀ ds:List D,cmpL ds=true→PyData.canLayAll0 (pyL ds)=true
  | [],_=>rfl
  | d::ds,h=>by
    have h:(cmpD d && cmpL ds)=true:=h
    rw [Bool.and_eq_true] at h
    show ((pyD d).canLay0 && PyData.canLayAll0 (pyL ds))=true
    rw [cmp_lay d h.1,cmp_layL ds h.2]
    rfl
end
mutual
theorem eqv_iff:∀ d e:D,cmpD d=true→cmpD e=true→(PyData.eqv (pyD d) (pyD e)=true↔d=e)
  | .bl _,_,h,_=>by cases h
  | .non,e,_,h=>by cases e <;> simp [pyD,PyData.eqv,cmpD] at h ⊢
  | .int i,e,_,h=>by cases e <;> simp [pyD,PyData.eqv,cmpD] at h ⊢
  | .str x,e,_,h=>by cases e <;> simp [pyD,PyData.eqv,cmpD] at h ⊢
  | .tup ds,.tup es,h,h'=>by
    show PyData.eqvAll (pyL ds) (pyL es)=true↔_
    rw [eqv_iffL ds es h h']
    simp
  | .tup ds,.non,_,_=>by simp [pyD,PyData.eqv]
  | .tup ds,.bl _,_,h=>by cases h
  | .tup ds,.int _,_,_=>by simp [pyD,PyData.eqv]
  | .tup ds,.str _,_,_=>by simp [pyD,PyData.eqv]
theorem eqv_iffL:∀ ds es:List D,cmpL ds=true→cmpL es=true→(PyData.eqvAll (pyL ds) (pyL es)=true↔ds=es)
  | [],[],_,_=>by simp [pyL,PyData.eqvAll]
  | [],_::_,_,_=>by simp [pyL,PyData.eqvAll]
  | _::_,[],_,_=>by simp [pyL,PyData.eqvAll]
  | d::ds,e::es,h,h'=>by
    have h:(cmpD d && cmpL ds)=true:=h
    have h':(cmpD e && cmpL es)=true:=h'
    rw [Bool.and_eq_true] at h h'
    show (PyData.eqv (pyD d) (pyD e) && PyData.eqvAll (pyL ds) (pyL es))=true↔_
    rw [Bool.and_eq_true,eqv_iff d e h.1 h'.1,eqv_iffL ds es h.2 h'.2]
    simp
end
def rEqD (eq:Bool):R2:=fun x y H Q=>∃ (d e:D) (z:Bool),Rep H d x∧Rep H e y∧depth d≤60∧depth e≤60∧cmpD d=true∧cmpD e=true∧(z=true↔d=e)∧Q (.bl (z==eq)) H
theorem shp {d:D} (h:cmpD d=true) (hd:depth d≤60):SeqAt.shaped (pyD d)=true:=by
  unfold SeqAt.shaped
  rw [cmp_lay d h,Bool.true_and]
  exact decide_eq_true (Nat.le_trans (py_depth d) (by omega))
theorem eqv_z {d e:D} {z:Bool} (h1:cmpD d=true) (h2:cmpD e=true) (hz:z=true↔d=e):PyData.eqv (pyD d) (pyD e)=z:=by
  have:=eqv_iff d e h1 h2
  cases z with
  | true=>exact this.mpr (hz.mp rfl)
  | false =>
    cases q:PyData.eqv (pyD d) (pyD e) with
    | false=>rfl
    | true=>exact absurd (hz.mpr (this.mp q)) (by simp)
theorem op_eqD {X:Cx} (hu:X.A.units+64<cLine):OpR X (compareOp .Eq) (rEqD true):=by
  intro pins s σ H x y v u Q I rx ry h
  obtain ⟨d,e,z,r1,r2,hd,he,c1,c2,hz,q⟩:=h
  obtain ⟨as,h1⟩:=rep_reads I r1 rx
  obtain ⟨bs,h2⟩:=rep_reads I r2 ry
  refine SeqAt.compareEq_shaped h1 h2 (shp c1 hd) (shp c2 he) hu ⟨_,H,I,?_,q⟩
  rw [eqv_z c1 c2 hz]
  show Value.bool _=Value.bool _
  cases z <;> rfl
theorem op_neD2 {X:Cx} (hu:X.A.units+64<cLine):OpR X (compareOp .NotEq) (rEqD false):=by
  intro pins s σ H x y v u Q I rx ry h
  obtain ⟨d,e,z,r1,r2,hd,he,c1,c2,hz,q⟩:=h
  obtain ⟨as,h1⟩:=rep_reads I r1 rx
  obtain ⟨bs,h2⟩:=rep_reads I r2 ry
  refine SeqAt.compareNe_shaped h1 h2 (shp c1 hd) (shp c2 he) hu ⟨_,H,I,?_,q⟩
  rw [eqv_z c1 c2 hz]
  show Value.bool _=Value.bool _
  cases z <;> rfl
end L3
end
section
namespace L3
open PySem PySem.Spec PyProof.Rows L2 KM
end L3
end
section
namespace L3
open PySem PySem.Spec PyProof.Rows L2 KM
section
variable {P:Program} {w:World}
open SeqAt MeetsSeq3 in
open SeqAt MeetsSeq3 in
end
section
variable {X:Cx}
end
theorem comp_byC {J:It} {p:Addr} {H1:Hp} {g:TG} {tt:TT} {te:TE} {b:L2.St} {C:Hp→Prop} (n:Nat) (Pv:Nat→List V→Hp→Prop) (h0:Pv 0 [] (upd H1 p (.lst [])))
    (hgo:∀ i acc H2,i<n→Pv i acc H2→J.go i H2∧∀ x H3,J.yld i H2 x H3→g x b H3 fun σ4 H4=>tt σ4 H4 fun ok H5 =>
      if ok=true then te σ4 H5 fun v H6=>H6 p=some (.lst acc)∧acc.length<sizeLine∧Nx n i (Pv (i+1) (acc++[v]) (upd H6 p (.lst (acc++[v])))) else Nx n i (Pv (i+1) acc H5))
    (hd:∀ acc H2,Pv n acc H2→J.stop n H2∧C H2) :
    ∃ W:Nat→Nat→List V→Hp→Prop,(∃ m,W 0 m [] (upd H1 p (.lst [])))∧∀ i m acc H2,W i m acc H2→(J.stop i H2∧C H2)∨(J.go i H2∧∀ x H3,J.yld i H2 x H3→g x b H3 fun σ4 H4=>tt σ4 H4 fun ok H5 =>
      if ok=true then te σ4 H5 fun v H6=>H6 p=some (.lst acc)∧acc.length<sizeLine∧∃ m',m'<m∧W (i+1) m' (acc++[v]) (upd H6 p (.lst (acc++[v]))) else ∃ m',m'<m∧W (i+1) m' acc H5):=comp_by (Q:=fun _ H=>C H) n Pv h0 hgo hd
end L3
end
section
set_option maxHeartbeats 2000000
namespace K27
open PySem L2 L3 KM PyProof.Rows
seal L2.PE L2.PS L2.PSs L2.PT L2.PW L2.PA L2.PG L2.PGs L2.PI L2.PC L2.PO L2.PPs L2.PK L3.PIf
variable {P:Program} {w:World} {K:PySem.W.Frag} {mg:Str→Option Value} {base:Heap} {t:Adr}
def hdD:D→Str
  | .tup (.str x::_)=>x
  | _ => ""
def nameB (inb:Str→Bool):D→V
  | .str y=>if inb y=true then .str "name" else .non
  | _=>.non
def ruleW (inb:Str→Bool) (x:Str) (ps:List D):V :=
  if x = "name" then nameB inb ((ps[0]?).getD .non)
  else if x = "app" then (if hdD ((ps[0]?).getD .non) = "fun" then .str "fun" else .non)
  else if x = "carry" then (if hdD ((ps[2]?).getD .non) = "like" then .str "like" else .non)
  else if x = "first" then (if hdD ((ps[0]?).getD .non) = "pair" then .str "first" else .non)
  else if x = "second" then (if hdD ((ps[0]?).getD .non) = "pair" then .str "second" else .non)
  else if x = "rec" then (if hdD ((ps[3]?).getD .non) = "zero" then .str "zero" else if hdD ((ps[3]?).getD .non) = "next" then .str "next" else .non)
  else .non
def ruleD (inb:Str→Bool):D→V
  | .tup (.str x::ps)=>ruleW inb x ps
  | _=>.non
theorem wfL_at {nm:D→Bool}:∀ {cs:List Nat} {ps:List D} {i c:Nat},wfL nm cs ps=true→cs[i]?=some c→∃ p,ps[i]?=some p∧dueB nm c p=true
  | [],[],_,_,_,e=>by simp at e
  | [],_::_,_,_,h,_=>by simp [wfL] at h
  | _::_,[],_,_,h,_=>by simp [wfL] at h
  | a::cs,p::ps,0,c,h,e=>by
    simp at e
    subst e
    rw [wfL_cons,Bool.and_eq_true] at h
    exact ⟨p,rfl,h.1⟩
  | a::cs,p::ps,i+1,c,h,e=>by
    rw [wfL_cons,Bool.and_eq_true] at h
    obtain ⟨c,h1,h2⟩:=wfL_at (i:=i) h.2 (by simpa using e)
    exact ⟨c,by simpa using h1,h2⟩
theorem part_of {k:Bool} {x s:Str} {ps:List D} (h:wfG isStrD k (.tup (.str x::ps))=true) (hs:shapeV x=.str s) {i:Nat} (hi:s.cps.toList[i]?=some 116):∃ p,ps[i]?=some p∧wfG isStrD false p=true:=by
  obtain ⟨s',e1,_,e3,_⟩:=wf_shape h
  rw [hs] at e1
  cases e1
  obtain ⟨p,h1,h2⟩:=wfL_at e3 hi
  exact ⟨p,h1,by simpa [dueB] using h2⟩
theorem hd_rep {H:Hp} {k:Bool} {p:D} {u:V} (h:wfG isStrD k p=true) (r:Rep H p u):∃ (c:Addr) (us:List V),u=.ref c∧H c=some (.tup (.str (hdD p)::us)):=by
  obtain ⟨x,ps,rfl⟩:=wf_form h
  obtain ⟨c,vs,rfl,hc,v0,us,rfl,⟨rfl,_⟩,_⟩:=r
  exact ⟨c,us,rfl,hc⟩
theorem part_rep {H:Hp} {k:Bool} {x s:Str} {ps:List D} {us:List V} (h:wfG isStrD k (.tup (.str x::ps))=true) (r:Reps H ps us) (hs:shapeV x=.str s) {i:Nat} (hi:s.cps.toList[i]?=some 116) :
    ∃ (c:Addr) (ws:List V),atI (V.str x::us) ((i+1:Nat):Int)=some (.ref c)∧H c=some (.tup (.str (hdD ((ps[i]?).getD .non))::ws)):=by
  obtain ⟨p,h1,h2⟩:=part_of h hs hi
  obtain ⟨u,hu,ru⟩:=r.get h1
  obtain ⟨c,ws,rfl,hc⟩:=hd_rep h2 ru
  refine ⟨c,ws,atI_nat (by simpa using hu),?_⟩
  rw [h1]
  exact hc
def inB (kvs:List (Key×V)) (x:Str):Bool:=(valV kvs (Sum.inr x:Key)).isSome
def spRule:Sp:=fun vs H Q _=>∃ (d:D) (v:V) (b:Addr) (kvs:List (Key×V)),vs=[v,.ref b]∧Rep H d v∧Wf d∧H b=some (.dK kvs)∧∀ H',Same H H'→Q (ruleD (inB kvs) d) H'
theorem name_part {k:Bool} {ps:List D} (h:wfG isStrD k (.tup (.str "name" :: ps))=true):∃ y,ps=[.str y]:=by
  obtain ⟨s',e1,_,e3,_⟩:=wf_shape h
  rw [shape_name] at e1
  cases e1
  rw [len_w] at e3
  match ps,e3 with
  | [],e3=>simp [wfL] at e3
  | [p],e3 =>
    rw [wfL_cons,Bool.and_eq_true] at e3
    have:isStrD p=true:=by simpa [dueB] using e3.1
    cases p with
    | str y=>exact ⟨y,rfl⟩
    | _=>simp [isStrD] at this
  | p::q::r,e3 =>
    rw [wfL_cons,Bool.and_eq_true] at e3
    have:=e3.2
    simp [wfL] at this
def Rul (K:PySem.W.Frag) (r:Addr):Prop:=∃ a1 a2 a3 a4 a5 b1 b2 b3 b4 b5 b6:Addr,TabK K r [("app",.ref a1),("rec",.ref a2),("carry",.ref a3),("first",.ref a4),("second",.ref a5)] ∧
  SqK K a1 [.ref b1]∧SqK K b1 [.int 1,.str "fun",.str "fun"]∧SqK K a2 [.ref b2,.ref b3]∧SqK K b2 [.int 4,.str "zero",.str "zero"]∧SqK K b3 [.int 4,.str "next",.str "next"] ∧
  SqK K a3 [.ref b4]∧SqK K b4 [.int 3,.str "like",.str "like"]∧SqK K a4 [.ref b5]∧SqK K b5 [.int 1,.str "pair",.str "first"]∧SqK K a5 [.ref b6]∧SqK K b6 [.int 1,.str "pair",.str "second"]
theorem dat5 (v1 v2 v3 v4 v5:V) (x:Str):KTD.datumAt x [(("app" : Str),v1),("rec",v2),("carry",v3),("first",v4),("second",v5)]=if x = "app" then some v1 else if x = "rec" then some v2 else if x = "carry" then some v3 else if x = "first" then some v4 else if x = "second" then some v5 else none:=by
  simp only [KTD.datumAt,decide_eq_true_eq]
abbrev Rw:=Nat×Str×Str
def hitB (ps:List D) (r:Rw):Bool:=decide (hdD ((ps[r.1]?).getD .non)=r.2.1)
def firstV (ps:List D):List Rw→V
  | []=>.non
  | r::rs=>if hitB ps r=true then .str r.2.2 else firstV ps rs
theorem firstV_drop {ps:List D}:∀ {rows:List Rw} {i:Nat},(∀ r∈rows.take i,hitB ps r=false)→firstV ps rows=firstV ps (rows.drop i)
  | rows,0,_=>rfl
  | [],i+1,_=>rfl
  | r::rs,i+1,h=>by
    have h0:=h r (by simp)
    rw [firstV,if_neg (by rw [h0]; decide),List.drop_succ_cons]
    exact firstV_drop fun r hr=>h r (by rw [List.take_succ_cons]; exact List.mem_cons_of_mem _ hr)
theorem sc_rule_of:FnScope ["thing", "book", "part", "word", "rule"] ["thing", "book"] (defScope s_rule_of):=⟨rfl,rfl,rfl,by decide +kernel,rfl,by decide +kernel,by decide +kernel⟩
theorem c_rule_of (D:Df K mg "rule_of" s_rule_of ["thing", "book"]) (M:Mg mg t) (T:Rul K t.RULES):Cal P w K mg CX0 "rule_of" (1) ["thing", "book"] spRule:=by
  refine D.ok sc_rule_of (fun vs H Q E h=>?_) (fun base f cdv A outer s H vs Q E hr h=>?_)
  · obtain ⟨d,v,b,kvs,rfl,_⟩:=h
    rfl
  obtain ⟨d,v,b,kvs,rfl,r,wf,hb,q⟩:=h
  have hu:=hu_of hr
  obtain ⟨x,ps,k,rfl,wfk,hps⟩:=wf_ps wf
  obtain ⟨a,us0,rfl,ha,v0,us,rfl,⟨rfl,hx⟩,rp⟩:=id r
  have ea:atI (V.str x::us) 0=some (.str x):=atI_nat (j:=0) rfl
  obtain ⟨a1,a2,a3,a4,a5,b1,b2,b3,b4,b5,b6,TT,s1,s2,s3,s4,s5,s6,s7,s8,s9,s10,s11⟩:=T
  refine ⟨_,(pss_cons (ps_if (pt_cmpR op_eq (pe_ix ix_tup (pv 0) pe_int (fun _ _=>rfl)) pe_str (nomark _)) (pss_one (ps_ret (pe_ifExp (pt_cmp (pc_din hu (pe_ix ix_tup (pv 0) pe_int (fun _ _=>rfl)) (pv 1))) pe_str pe_non))) pss_nil)
      (pss_cons (ps_for PassesOwn.never rfl (pi_tup (pe_tget2 (pe_gref M.g_RULES rfl) (pe_ix ix_tup (pv 0) pe_int (fun _ _=>rfl)) (pe_tup pa_nil) ⟨rfl,rfl,rfl,rfl⟩)) (pg_tup (n:=3) rfl (pgs_cons (pg_name (i:=2) sc_rule_of.nd rfl (by first | exact Or.inl rfl | exact Or.inr rfl)) (pgs_cons (pg_name (i:=3) sc_rule_of.nd rfl (by first | exact Or.inl rfl | exact Or.inr rfl)) (pgs_cons (pg_name (i:=4) sc_rule_of.nd rfl (by first | exact Or.inl rfl | exact Or.inr rfl)) pgs_nil)))) (pss_one (ps_if (pt_cmpR op_eq (pe_ix ix_tup (pe_ix ix_tup (pv 0) (pv 2) (fun _ _=>rfl)) pe_int (fun _ _=>rfl)) (pv 3) (nomark _)) (pss_one (ps_ret (pv 4))) pss_nil)))
      (pss_one (ps_ret pe_non)))),?_⟩
  try dsimp only [cxK,cxK2]
  refine let3 ?_
  intro _ _ _
  refine ⟨_,rfl,a,_,_,_,rfl,rfl,SqT.of ha,ea,rfl,_,rfl,?_⟩
  refine ite2 (fun c=>?_) (fun c=>?_)
  · have c:V.str x=V.str "name" := of_decide_eq_true c
    cases c
    obtain ⟨y,rfl⟩:=name_part wfk
    obtain ⟨u,us',rfl,⟨rfl,_⟩,ru⟩:=rp
    cases (show us'=[] from ru)
    have eq1:ruleD (inB kvs) (.tup [.str "name",.str y])=if inB kvs y=true then .str "name" else .non:=rfl
    rw [eq1] at q
    have qq:=q H (Same.refl H)
    refine ⟨_,rfl,a,_,_,.str y,rfl,rfl,SqT.of ha,atI_nat (j:=1) rfl,_,rfl,b,_,rfl,DGet.k (k:=Sum.inr y) hb,_,rfl,?_⟩
    show if inB kvs y=true then _ else _
    cases hin:inB kvs y with
    | true =>
      rw [hin] at qq
      exact qq
    | false =>
      rw [hin] at qq
      exact qq
  have nn:x ≠ "name" := fun z=>c (by rw [z]; decide +kernel)
  refine ⟨t.RULES,_,rfl,TT,_,rfl,a,_,_,_,rfl,rfl,SqT.of ha,ea,(by show 0≤sizeLine; decide),fun p0 hp0=>⟨x,rfl,?_⟩⟩
  have t0:=same_new hp0 (.tup [])
  have h0:(upd H p0 (.tup [])) p0=some (.tup []):=upd_same
  have rp0:=rp.mono t0
  have ha0:=t0 _ _ ha
  generalize upd H p0 (.tup [])=H0 at t0 h0 rp0 ha0 ⊢
  rw [dat5]
  have key:∃ (c:Addr) (rows:List Rw) (bs:List V),(if x = "app" then some (V.ref a1) else if x = "rec" then some (.ref a2) else if x = "carry" then some (.ref a3) else if x = "first" then some (.ref a4) else if x = "second" then some (.ref a5) else none).getD (.ref p0)=.ref c∧(∀ H1,Same H0 H1→SqT K H1 c bs)∧bs.length=rows.length ∧
      (∀ (i:Nat) (r:Rw),rows[i]?=some r→∃ b':Addr,bs[i]?=some (V.ref b')∧SqK K b' [.int ((r.1+1:Nat):Int),.str r.2.1,.str r.2.2])∧(∀ r∈rows,∃ s',shapeV x=.str s'∧s'.cps.toList[r.1]?=some 116)∧ruleW (inB kvs) x ps=firstV ps rows:=by
    have one:∀ (r:Rw) (b':Addr),SqK K b' [.int ((r.1+1:Nat):Int),.str r.2.1,.str r.2.2]→∀ (i:Nat) (r':Rw),[r][i]?=some r'→∃ b'',[V.ref b'][i]?=some (.ref b'')∧SqK K b'' [.int ((r'.1+1:Nat):Int),.str r'.2.1,.str r'.2.2]:=fun r b' h i r' e=>by
      match i,e with
      | 0,e=>cases e; exact ⟨b',rfl,h⟩
      | i+1,e=>simp at e
    unfold ruleW
    rw [if_neg nn]
    by_cases e1:x = "app"
    · subst e1
      refine ⟨a1,[(0, "fun", "fun")],[.ref b1],by simp,fun H1 _=>.inr s1,rfl,one _ _ s2,fun r hr=>?_,?_⟩
      · rw [List.mem_singleton.mp hr]; exact ⟨"tt",by decide +kernel,by decide +kernel⟩
      · simp [firstV,hitB]
    by_cases e2:x = "rec"
    · subst e2
      refine ⟨a2,[(3, "zero", "zero"),(3, "next", "next")],[.ref b2,.ref b3],by simp [e1],fun H1 _=>.inr s3,rfl,fun i r e=>?_,fun r hr=>?_,?_⟩
      · match i,e with
        | 0,e=>cases e; exact ⟨b2,rfl,s4⟩
        | 1,e=>cases e; exact ⟨b3,rfl,s5⟩
        | i+2,e=>simp at e
      · have hr1:r.1=3:=by
          simp only [List.mem_cons,List.not_mem_nil,or_false] at hr
          rcases hr with rfl | rfl <;> rfl
        rw [hr1]
        exact ⟨"kttt",by decide +kernel,by decide +kernel⟩
      · have n1:(Str.ofString "rec")≠Str.ofString "carry" := by decide +kernel
        have n2:(Str.ofString "rec")≠Str.ofString "first" := by decide +kernel
        have n3:(Str.ofString "rec")≠Str.ofString "second" := by decide +kernel
        rw [if_neg e1,if_neg n1,if_neg n2,if_neg n3,if_pos rfl]
        simp [firstV,hitB]
    by_cases e3:x = "carry"
    · subst e3
      refine ⟨a3,[(2, "like", "like")],[.ref b4],by simp [e1,e2],fun H1 _=>.inr s6,rfl,one _ _ s7,fun r hr=>?_,?_⟩
      · rw [List.mem_singleton.mp hr]; exact ⟨"ktt",by decide +kernel,by decide +kernel⟩
      · simp [firstV,hitB,e1]
    by_cases e4:x = "first"
    · subst e4
      refine ⟨a4,[(0, "pair", "first")],[.ref b5],by simp [e1,e2,e3],fun H1 _=>.inr s8,rfl,one _ _ s9,fun r hr=>?_,?_⟩
      · rw [List.mem_singleton.mp hr]; exact ⟨"t",by decide +kernel,by decide +kernel⟩
      · simp [firstV,hitB,e1,e3]
    by_cases e5:x = "second"
    · subst e5
      refine ⟨a5,[(0, "pair", "second")],[.ref b6],by simp [e1,e2,e3,e4],fun H1 _=>.inr s10,rfl,one _ _ s11,fun r hr=>?_,?_⟩
      · rw [List.mem_singleton.mp hr]; exact ⟨"t",by decide +kernel,by decide +kernel⟩
      · simp [firstV,hitB,e1,e3,e4]
    · exact ⟨p0,[],[],by simp [e1,e2,e3,e4,e5],fun H1 hs=>SqT.of (hs _ _ h0),rfl,(fun i r e=>by simp at e),(fun r hr=>absurd hr (by simp)),(by simp [firstV,e1,e2,e3,e4,e5])⟩
  obtain ⟨c,rows,bs,ec,hc,hl,hrow,hshp,hrule⟩:=key
  rw [ec]
  refine ⟨c,rfl,⟨bs,hc H0 (Same.refl _)⟩,?_⟩
  let Ifr:Nat→L2.St→Hp→Prop:=(fun i σ' H'=>∃ (pv wv rv:Option V),σ'=[some (.ref a),some (.ref b),pv,wv,rv]∧(∀ r∈rows.take i,hitB ps r=false)∧H'=H0)
  refine for_by bs.length Ifr ?_ ?_ ?_
  · exact ⟨none,none,none,rfl,fun r hr=>by simp at hr,rfl⟩
  · rintro i σ' H1 hi ⟨pv',wv,rv,rfl,hno,rfl⟩
    obtain ⟨r',hr'⟩:∃ r,rows[i]?=some r:=⟨_,List.getElem?_eq_getElem (by omega)⟩
    obtain ⟨b',hb',sb'⟩:=hrow i r' hr'
    refine ⟨⟨bs,_,hc _ (Same.refl _),hb'⟩,?_⟩
    rintro x' H2 ⟨rfl,hy⟩
    have hy:=hy bs (hc _ (Same.refl _))
    rw [hb'] at hy
    cases hy
    obtain ⟨s',ks,ki⟩:=hshp r' (List.mem_of_getElem? hr')
    obtain ⟨c0,ws,hat,hc0⟩:=part_rep wfk rp0 ks ki
    refine ⟨b',_,rfl,.inr sb',rfl,_,_,rfl,_,_,rfl,_,_,rfl,rfl,?_⟩
    refine ⟨_,rfl,_,rfl,a,_,_,.ref c0,rfl,rfl,SqT.of ha0,hat,c0,_,_,_,rfl,rfl,SqT.of hc0,atI_nat (j:=0) rfl,_,rfl,rfl,_,rfl,?_⟩
    have hd:rows.drop i=r'::rows.drop (i+1):=by
      obtain ⟨h,rfl⟩:=List.getElem?_eq_some_iff.mp hr'
      exact List.drop_eq_getElem_cons h
    refine ite2 (fun ch=>?_) (fun ch=>?_)
    · have ch:V.str (hdD ((ps[r'.1]?).getD .non))=V.str r'.2.1:=of_decide_eq_true ch
      injection ch with ch
      have hit:hitB ps r'=true:=decide_eq_true ch
      refine ⟨_,rfl,?_⟩
      have er:ruleD (inB kvs) (.tup (.str x::ps))=.str r'.2.2:=by
        show ruleW (inB kvs) x ps=_
        rw [hrule,firstV_drop hno,hd,firstV,if_pos hit]
      have qq:=q _ t0
      rw [er] at qq
      exact qq
    · have hit:hitB ps r'=false:=decide_eq_false fun z=>ch (by rw [z]; exact decide_eq_true rfl)
      refine ⟨_,_,_,rfl,fun r hr=>?_,rfl⟩
      rw [List.take_add_one,hr'] at hr
      rcases List.mem_append.mp hr with hr | hr
      · exact hno r hr
      · have:r=r':=by simpa using hr
        rw [this]
        exact hit
  · rintro σ' H1 ⟨pv',wv,rv,rfl,hno,rfl⟩
    refine ⟨⟨bs,hc _ (Same.refl _),Nat.le_refl _⟩,?_⟩
    have er:ruleD (inB kvs) (.tup (.str x::ps))=.non:=by
      show ruleW (inB kvs) x ps=_
      rw [hrule,firstV_drop hno,hl,List.drop_length,firstV]
    have qq:=q _ t0
    rw [er] at qq
    exact qq
end K27
end
section
set_option maxHeartbeats 1000000
namespace K27
open PySem L2 L3 KM PyProof.Rows
seal L2.PE L2.PS L2.PSs L2.PT L2.PW L2.PA L2.PG L2.PGs L2.PI L2.PC L2.PO L2.PPs L2.PK L3.PIf L3.PH L3.PB
variable {P:Program} {w:World} {K:PySem.W.Frag} {mg:Str→Option Value} {base:Heap} {t:Adr}
theorem reps_set {H:Hp}:∀ {ds:List D} {vs:List V} {d:D} {v:V} (i:Nat),Reps H ds vs→Rep H d v→Reps H (ds.set i d) (vs.set i v)
  | [],_,_,_,_,r,_=>by
    have r:_=[]:=r
    subst r
    exact rfl
  | _::_,_,_,_,0,⟨v,r,e,q,t⟩,h=>by
    subst e
    exact ⟨_,_,rfl,h,t⟩
  | _::_,_,_,_,i+1,⟨v,r,e,q,t⟩,h=>by
    subst e
    exact ⟨_,_,rfl,q,reps_set i t h⟩
def spChg (C:Addr) (n:Nat):Sp:=fun vs H Q E=>∃ (d:D) (v:V) (pl:List Int) (pv:V) (e:D) (ev:V),vs=[v,pv,ev]∧Rep H d v∧Wf d∧Rep H (plI pl) pv∧Rep H e ev∧pl.length<n∧(∀ (u:V) (H':Hp),Same H H'→(goto d pl).isSome=true→Rep H' (putD d pl e) u→Q u H')∧(∀ H',Same H H'→goto d pl=none→E (.ref C) none H')
theorem sc_changed_at:FnScope ["thing", "place", "new", "kid", "kids"] ["thing", "place", "new"] (defScope s_changed_at):=⟨rfl,rfl,rfl,by decide +kernel,rfl,by decide +kernel,by decide +kernel⟩
theorem st_changed_at {n:Nat} (D:Df K mg "changed_at" s_changed_at ["thing", "place", "new"]) (M:Mg mg t) (F_kid_at:Cal P w K mg (CXo P w) "kid_at" (2) ["thing", "number"] (spKidAt t.NoPlace)) (F_kids_of:Cal P w K mg CX0 "kids_of" (1) ["thing"] spKids) (F_rebuilt:Cal P w K mg CX0 "rebuilt" (1) ["thing", "kids"] spRebuilt) (F_changed_at:Cal P w K mg (CXo P w) "changed_at" (n+3) ["thing", "place", "new"] (spChg t.NoPlace n)):Cal P w K mg (CXo P w) "changed_at" (n+4) ["thing", "place", "new"] (spChg t.NoPlace (n+1)):=by
  refine D.okX sc_changed_at (fun vs H Q E h=>?_) (fun base f cdv A outer s H vs Q E hr h=>?_)
  · obtain ⟨d,v,pl,pv,e,ev,rfl,_⟩:=h
    rfl
  obtain ⟨d,v,pl,pv,e,ev,rfl,r,wf,rp,re,hn,q,qe⟩:=h
  obtain ⟨x,ps,k,rfl,wfk,hps⟩:=wf_ps wf
  obtain ⟨a,ws,rfl,ha,rw'⟩:=id rp
  have lw:=rw'.length
  rw [List.length_map] at lw
  refine ⟨_,(pss_cons (ps_if (pt_cmpR op_eq (pe_callB call_len_seq rfl M.n_len bt_len (pa_cons (pv 1) pa_nil)) pe_int (nomark _)) (pss_one (ps_ret (pv 2))) pss_nil)
      (pss_cons (ps_set (i:=3) sc_changed_at.nd rfl (by first | exact Or.inl rfl | exact Or.inr rfl) (pe_fn F_kid_at (hr.mono (by omega)) rfl passes_o (pa_cons (pv 0) (pa_cons (pe_ix ix_tup (pv 1) pe_int (fun _ _=>rfl)) pa_nil))))
      (pss_cons (ps_set (i:=4) sc_changed_at.nd rfl (by first | exact Or.inl rfl | exact Or.inr rfl) (pe_fn F_kids_of (hr.mono (by omega)) rfl pass0 (pa_cons (pv 0) pa_nil)))
      (pss_cons (ps_asg (pe_fn F_changed_at (hr.mono (by omega)) rfl passes_o (pa_cons (pv 3) (pa_cons (pe_slice sl_tupU (pv 1) (po_some pe_int) po_none) (pa_cons (pv 2) pa_nil)))) (pg_sub (pv 4) (pe_ix ix_tup (pv 1) pe_int (fun _ _=>rfl)) set_list))
      (pss_one (ps_ret (pe_fn F_rebuilt (hr.mono (by omega)) rfl pass0 (pa_cons (pv 0) (pa_cons (pv 4) pa_nil))))))))),?_⟩
  try dsimp only [cxK,cxK2]
  refine let5 ?_
  intro _ _ _ _ _
  refine ⟨_,rfl,a,_,rfl,.inr (SqT.of ha),rfl,_,rfl,?_⟩
  refine ite2 (fun c=>?_) (fun c=>?_)
  · have c:V.int ((ws.length:Nat):Int)=V.int 0:=of_decide_eq_true c
    injection c with c
    have hp:pl=[]:=List.length_eq_zero_iff.mp (by omega)
    subst hp
    exact ⟨_,rfl,q ev H (Same.refl H) rfl re⟩
  have hne:pl≠[]:=fun z=>c (by
    subst z
    have:ws.length=0:=lw
    rw [this]
    exact decide_eq_true rfl)
  obtain ⟨i,is,rfl⟩:∃ i is,pl=i::is:=by
    cases pl with
    | nil=>exact absurd rfl hne
    | cons i is=>exact ⟨i,is,rfl⟩
  obtain ⟨u0,ws',rfl,hu0,rw''⟩:=rw'
  have hu0:u0=V.int i:=hu0
  subst hu0
  have ea:atI (V.int i::ws') 0=some (.int i):=atI_nat (j:=0) rfl
  refine ⟨_,rfl,_,rfl,a,_,_,_,rfl,rfl,SqT.of ha,ea,_,v,i,rfl,r,wf,fun p u H1 s1 ek ru=>?_,fun H1 s1 ek=>qe H1 s1 (goto_stop ek)⟩
  obtain ⟨i0,hx,hp⟩:=kid_facts ek
  refine ⟨_,rfl,x,ps,v,rfl,r.mono s1,hps,fun p2 us H2 hp2 s2 h2 r2=>?_⟩
  have l2:=r2.length
  have hk:kidsD x ps=ps:=by unfold kidsD; rw [hx]; rfl
  rw [hk] at r2 l2
  have s12:=s1.trans s2
  refine ⟨_,rfl,_,rfl,_,rfl,a,_,rfl,s12 _ _ ha,fun b1 H3 s3 h3=>?_⟩
  have h3:H3 b1=some (.tup ws'):=by
    have z:=cutV_from (V.int i::ws') 1
    rw [show ((1:Nat):Int)=1 from rfl] at z
    rw [z] at h3
    exact h3
  have s13:=s12.trans s3
  refine ⟨_,rfl,p,u,is,.ref b1,e,ev,rfl,ru.mono (s2.trans s3),wf_kidAt wf ek,⟨b1,ws',rfl,h3,rw''.mono s13⟩,re.mono s13,(by rw [List.length_cons] at hn; omega),fun u2 H4 s4 hg r4=>?_,fun H4 s4 hg=>qe H4 (s13.trans s4) (by rw [goto_cons ek]; exact hg)⟩
  have hl:i.toNat<us.length:=by
    have:=(List.getElem?_eq_some_iff.mp hp).1
    omega
  have s14:=s13.trans s4
  refine ⟨_,rfl,_,rfl,a,_,_,_,rfl,rfl,SqT.of (s14 _ _ ha),ea,p2,us,_,i.toNat,rfl,rfl,(s3.trans s4) _ _ h2,?_,?_⟩
  · unfold ixN
    rw [if_pos (by omega),if_pos (by omega)]
  have h24:=(s3.trans s4) _ _ h2
  have hf:H p2=none:=s1.free hp2
  have s5:Same H (upd H4 p2 (.lst (us.set i.toNat u2))):=same_upd s14 hf
  refine ⟨_,rfl,_,rfl,x,ps,ps.set i.toNat (putD p is e),v,p2,_,rfl,r.mono s5,upd_same,(reps_set i.toNat (r2.mono (s3.trans s4)) r4).updL h24,(by rw [List.length_set]; exact hps),fun u5 H6 s6 r6=>?_⟩
  refine q u5 H6 (s5.trans s6) (by rw [goto_cons ek]; exact hg) ?_
  rw [put_cons ek]
  have hne2:ps.set i.toNat (putD p is e)≠[]:=fun z=>by
    have:=congrArg List.length z
    rw [List.length_set] at this
    have:ps.length=0:=this
    omega
  unfold rebuiltD at r6
  rw [if_neg hne2] at r6
  exact r6
theorem c_changed_at (D:Df K mg "changed_at" s_changed_at ["thing", "place", "new"]) (M:Mg mg t) (F_kid_at:Cal P w K mg (CXo P w) "kid_at" (2) ["thing", "number"] (spKidAt t.NoPlace)) (F_kids_of:Cal P w K mg CX0 "kids_of" (1) ["thing"] spKids) (F_rebuilt:Cal P w K mg CX0 "rebuilt" (1) ["thing", "kids"] spRebuilt):∀ n:Nat,Cal P w K mg (CXo P w) "changed_at" (n+3) ["thing", "place", "new"] (spChg t.NoPlace n)
  | 0=>Cal.never D fun vs H Q E ⟨d,v,pl,pv,e,ev,_,_,_,_,_,h,_⟩=>absurd h (Nat.not_lt_zero _)
  | n+1=>st_changed_at D M F_kid_at F_kids_of F_rebuilt (c_changed_at D M F_kid_at F_kids_of F_rebuilt n)
def spPut (C G:Addr) (n:Nat):Sp:=fun vs H Q E=>∃ (d:D) (v:V) (pl:List Int) (pv:V) (e:D) (ev:V),vs=[v,pv,ev]∧Rep H d v∧Wf d∧Rep H (plI pl) pv∧Rep H e ev∧pl.length<100∧((goto d pl).isSome=true→Rz (putD d pl e) n)∧(∀ (u:V) (H':Hp),Same H H'→(goto d pl).isSome=true→(vastD (putD d pl e) || bigD (putD d pl e))=false→Rep H' (putD d pl e) u→Q u H')∧(∀ H',Same H H'→goto d pl=none→E (.ref C) none H')∧(∀ H',Same H H'→(goto d pl).isSome=true→(vastD (putD d pl e) || bigD (putD d pl e))=true→E (.ref G) none H')
theorem sc_with_at:FnScope ["thing", "place", "new"] ["thing", "place", "new"] (defScope s_with_at):=⟨rfl,rfl,rfl,by decide +kernel,rfl,by decide +kernel,by decide +kernel⟩
theorem c_with_at {n:Nat} (D:Df K mg "with_at" s_with_at ["thing", "place", "new"]) (M:Mg mg t) (hn:99≤n) (F_changed_at:Cal P w K mg (CXo P w) "changed_at" (103) ["thing", "place", "new"] (spChg t.NoPlace 100)) (F_bounded:Cal P w K mg (CXo P w) "bounded" (n+4) ["thing"] (spBounded t.Great n)):Cal P w K mg (CXo P w) "with_at" (n+5) ["thing", "place", "new"] (spPut t.NoPlace t.Great n):=by
  refine D.okX sc_with_at (fun vs H Q E h=>?_) (fun base f cdv A outer s H vs Q E hr h=>?_)
  · obtain ⟨d,v,pl,pw,e,ev,rfl,_⟩:=h
    rfl
  obtain ⟨d,v,pl,pw,e,ev,rfl,r,wf,rp,re,hl,rz,q,qe,qg⟩:=h
  refine ⟨_,(pss_one (ps_ret (pe_fn F_bounded (hr.mono (by omega)) rfl passes_o (pa_cons (pe_fn F_changed_at (hr.mono (by omega)) rfl passes_o (pa_cons (pv 0) (pa_cons (pv 1) (pa_cons (pv 2) pa_nil)))) pa_nil)))),?_⟩
  try dsimp only [cxK,cxK2]
  refine ⟨_,rfl,_,rfl,_,rfl,d,v,pl,pw,e,ev,rfl,r,wf,rp,re,hl,fun u H1 s1 hg r1=>?_,fun H1 s1 hg=>qe H1 s1 hg⟩
  exact ⟨_,u,rfl,r1,rz hg,fun H2 s2 hv=>q u H2 (s1.trans s2) hg hv (r1.mono s2),fun H2 s2 hv=>qg H2 (s1.trans s2) hg hv⟩
end K27
end
section
namespace L3
open PySem PySem.Spec PyProof.Rows L2 KM
abbrev CodeIs (qual:Str):HO:=.tbl (.code qual)
structure CloScope (ps cs:List Str) (scope:Scope):Prop where
  kind:scope.kind=.function
  co:scope.isCoroutine=false
  gen:scope.isGenerator=false
  nocell:∀ x∈scope.names,x.2≠.cell
  par:∀ x∈ps,scope.names.lookup x=some .local
  nd:(ps++cs).Nodup
  free:∀ x∈cs,scope.names.lookup x=some .free
  all:∀ x,scope.names.lookup x=some .free→x∈cs
structure CloAt (h:Heap) (f c:Addr) (name qual:Str) (params:Arguments) (body:List Stmt) (scope:Scope) (cs:List Str) (ws:List V) (cl:List (Str×Addr)) (doc pm ct:Value):Prop where
  fo:h.get? f=some { cls:=.type "function",data:=.func (PySem.W.fnX name qual params body scope cl .none .none doc pm none (.ref c) ct) }
  inj:∀ x y a,cl.lookup x=some a→cl.lookup y=some a→x=y
  own:∀ x a,cl.lookup x=some a→x∈cs
  cell:∀ (i:Nat) (x:Str),cs[i]?=some x→∃ (v:V) (a:Addr) (u:Value),ws[i]?=some v∧cl.lookup x=some a∧RelV v u∧h.IsCell a (some u)
  len:ws.length=cs.length
section
variable {h h':Heap} {f c:Addr} {name qual:Str} {params:Arguments} {body:List Stmt} {scope:Scope} {cs:List Str} {ws:List V} {cl:List (Str×Addr)} {doc pm ct:Value}
theorem CloAt.keeps (C:CloAt h f c name qual params body scope cs ws cl doc pm ct) (k:∀ b o,h.get? b=some o→h'.get? b=some o):CloAt h' f c name qual params body scope cs ws cl doc pm ct :=
  ⟨k _ _ C.fo,C.inj,C.own,fun i x e=>let ⟨v,a,u,h1,h2,h3,o,h4,h5⟩:=C.cell i x e; ⟨v,a,u,h1,h2,h3,o,k _ _ h4,h5⟩,C.len⟩
end
abbrev cloEnv (qual:Str) (scope:Scope) (L f c:Addr) (cl:List (Str×Addr)):Env:=PySem.W.envX qual scope L f (.ref c) cl
def cxClo (CX:CXT) (P:Program) (w:World) (K:PySem.W.Frag) (mg:Str→Option Value) (base:Heap) (N:List Str) (qual:Str) (scope:Scope) (f c:Addr) (cl:List (Str×Addr)) (A:Around) (outer:List Env) (s:Shared) (H:Hp) (E:XK):Cx where
  prog:=P
  w:=w
  K:=K
  mg:=mg
  base:=base
  A:=A.deeper (cloEnv qual scope s.heap.objs.size f c cl)
  N:=N
  s₀:=s
  H₀:=H
  env:=cloEnv qual scope s.heap.objs.size f c cl
  outer:=outer
  stack:=cloEnv qual scope s.heap.objs.size f c cl::outer
  ex:=[]
  calm:=true
  fn:=fun _=>false
  pn:=[]
  xe:=fun e s'=>wpAny (model P w) (A.deeper (cloEnv qual scope s.heap.objs.size f c cl)) (leaving (cloEnv qual scope s.heap.objs.size f c cl) e) (fun _ s''=>CX A.handled outer H s E e s'') (fun e' s''=>CX A.handled outer H s E e' s'') s'
theorem look_nodup {β:Type}:∀ {l:List (Str×β)} {x:Str} {v:β},(l.map (·.1)).Nodup→(x,v)∈l→l.lookup x=some v
  | [],_,_,_,h=>by cases h
  | (y,w)::l,x,v,nd,h=>by
    rw [List.map_cons,List.nodup_cons] at nd
    rw [List.lookup_cons]
    rcases List.mem_cons.mp h with e | h
    · cases e
      simp
    · have hne:x≠y:=fun z=>nd.1 (by rw [← z]; exact List.mem_map.mpr ⟨(x,v),h,rfl⟩)
      have:(x==y)=false:=by simpa using hne
      rw [this]
      exact look_nodup nd.2 h
theorem zip_nodup:∀ {ps:List Str} (us:List Value),ps.Nodup→((ps.zip us).map (·.1)).Nodup
  | [],us,_=>by simp
  | p::ps,[],_=>by simp
  | p::ps,u::us,nd=>by
    rw [List.nodup_cons] at nd
    rw [List.zip_cons_cons,List.map_cons,List.nodup_cons]
    refine ⟨fun h=>nd.1 ?_,zip_nodup us nd.2⟩
    obtain ⟨⟨a,b⟩,hm,e⟩:=List.mem_map.mp h
    cases e
    exact (List.of_mem_zip hm).1
theorem zip_look {ps:List Str} {us:List Value} (nd:ps.Nodup) {i:Nat} {x:Str} {u:Value} (h1:ps[i]?=some x) (h2:us[i]?=some u):(ps.zip us).reverse.lookup x=some u:=by
  have hm:(x,u)∈(ps.zip us).reverse:=List.mem_reverse.mpr (List.mem_of_getElem? (i:=i) (by rw [List.getElem?_zip_eq_some]; exact ⟨h1,h2⟩))
  refine look_nodup ?_ hm
  have hz:((ps.zip us).map (·.1)).Nodup:=zip_nodup us nd
  rw [List.map_reverse]
  exact (List.reverse_perm _).nodup_iff.mpr hz
theorem inv_clo {CX:CXT} {P:Program} {w:World} {K:PySem.W.Frag} {mg:Str→Option Value} {base:Heap} {ps cs:List Str} {name qual:Str} {params:Arguments} {body:List Stmt} {scope:Scope} {f c:Addr} {cl:List (Str×Addr)} {doc pm ct:Value} {A:Around} {outer:List Env} {s:Shared} {H:Hp} {E:XK} {us:List Value} {vs ws:List V} {h1:Heap} {t1:Nat}
    (S:CloScope ps cs scope) (e0:Env0 P w K mg base A outer s H) (C:CloAt base f c name qual params body scope cs ws cl doc pm ct) (hl:vs.length=ps.length) (r:Vals vs us) (hns:h1.Ns s.heap.objs.size (fun x=>(ps.zip us).reverse.lookup x)) (hk:∀ b o,s.heap.get? b=some o→h1.get? b=some o) :
    Inv (cxClo CX P w K mg base (ps++cs) qual scope f c cl A outer s H E) [] (vs.map some++ws.map some) H { s with heap:=h1,toks:=t1 }:=by
  have noA:∀ b:Addr,b∉(cxClo CX P w K mg base (ps++cs) qual scope f c cl A outer s H E).ex:=fun b z=>absurd (show b∈([]:List Addr) from z) (by simp)
  have cellOf:∀ x a,cl.lookup x=some a→∃ u,base.IsCell a (some u):=fun x a e=>by
    obtain ⟨i,hi⟩:=List.mem_iff_getElem?.mp (C.own x a e)
    obtain ⟨v,a',u,_,e2,_,e4⟩:=C.cell i x hi
    rw [e] at e2
    cases e2
    exact ⟨u,e4⟩
  have up:∀ {a:Addr} {v:Option Value},base.IsCell a v→h1.IsCell a v:=fun ⟨o,ho,hd⟩=>⟨o,hk _ _ (e0.bs _ _ ho).1,hd⟩
  refine ⟨⟨e0.mod,S.kind,rfl,rfl,Nat.le_refl _,C.inj,fun y hy=>?_,fun y c z=>(by cases z),fun _=>e0.hdl.toP,Around.frames_deeper e0.frames,.inr ⟨rfl,rfl⟩,fun b z=>absurd z (noA b),e0.bs,e0.bsz,fun b _ _=>noA b,fun b z=>absurd z (noA b),e0.funs,e0.frf⟩,
    rfl,e0.bare,Un.kept hk,⟨_,hns,fun i y v h1' h2 h3=>?_⟩,fun y a e=>?_,e0.hok.fresh (Nat.le_refl _),fun y a e=>?_,fun p hp=>absurd (show p∈([]:List (Addr×Obj)) from hp) (by simp),e0.hok.kept hk,?_⟩
  · have hy:scope.names.lookup y=some .cell∨scope.names.lookup y=some .free:=hy
    rcases hy with hy | hy
    · exact absurd rfl (S.nocell _ (PySem.mem_of_lookup hy))
    · obtain ⟨i,hi⟩:=List.mem_iff_getElem?.mp (S.all y hy)
      obtain ⟨v,a,u,_,e2,_⟩:=C.cell i y hi
      exact ⟨a,e2⟩
  · have h1':(ps++cs)[i]?=some y:=h1'
    by_cases hi:i<ps.length
    · rw [List.getElem?_append_left hi] at h1'
      rw [List.getElem?_append_left (by rw [List.length_map]; omega),List.getElem?_map] at h2
      obtain ⟨v',hv',e⟩:=Option.map_eq_some_iff.mp h2
      cases e
      obtain ⟨u,hu,ru⟩:=r.get hv'
      have nd:=(List.nodup_append.mp S.nd).1
      exact ⟨u,ru,.inl ⟨S.par y (List.mem_of_getElem? h1'),zip_look nd h1' hu⟩⟩
    · rw [List.getElem?_append_right (by omega)] at h1'
      rw [List.getElem?_append_right (by rw [List.length_map]; omega),List.length_map,hl,List.getElem?_map] at h2
      obtain ⟨v',hv',e⟩:=Option.map_eq_some_iff.mp h2
      cases e
      obtain ⟨v2,a,u,e1,e2,e3,e4⟩:=C.cell _ y h1'
      rw [hv'] at e1
      cases e1
      exact ⟨u,e3,.inr ⟨.inr (S.free y (List.mem_of_getElem? h1')),a,e2,up e4⟩⟩
  · obtain ⟨u,e4⟩:=cellOf y a e
    exact ⟨_,up e4⟩
  · obtain ⟨u,o,ho,_⟩:=cellOf y a e
    exact (e0.bs _ _ ho).2
  · show (vs.map some++ws.map some).length=(ps++cs).length
    rw [List.length_append,List.length_append,List.length_map,List.length_map,hl,C.len]
theorem clo_run {CX:CXT} {P:Program} {w:World} {K:PySem.W.Frag} {mg:Str→Option Value} {base:Heap} {k:Nat} {ps cs:List Str} {name qual:Str} {params:Arguments} {body:List Stmt} {scope:Scope} {f c:Addr} {cl:List (Str×Addr)} {doc pm ct:Value} {A:Around} {outer:List Env} {s:Shared} {H:Hp} {Q:VK} {E:XK} {us:List Value} {vs ws:List V}
    (S:CloScope ps cs scope) (e0:Env0 P w K mg base A outer s H) (hr:Room (k+1) A) (C:CloAt base f c name qual params body scope cs ws cl doc pm ct) (hc:H c=some (CodeIs qual)) (hl:vs.length=ps.length) (r:Vals vs us)
    (hb:BindsTo s (PySem.W.fnX name qual params body scope cl .none .none doc pm none (.ref c) ct) ⟨us,[]⟩ (ps.zip us))
    (hbody:Room k (A.deeper (cloEnv qual scope s.heap.objs.size f c cl))→∃ t,PSs (cxClo CX P w K mg base (ps++cs) qual scope f c cl A outer s H E) body t∧t { nx:=fun _ H'=>Q .non H',rt:=Q } (vs.map some++ws.map some) H) :
    codeAny (model P w) A (.call (.ref f) ⟨us,[]⟩) (CR CX A.handled outer P w H s Q E) s:=by
  have lim:s.heap.NoLimit:=e0.mod.nolimit.keeps fun b o e=>(e0.bs b o e).1
  have hcode:s.heap.CodeRec (.ref c) qual:=(show ObjOk P w H s.heap c (CodeIs qual) from e0.hok c _ hc)
  refine codeAny_call_def (fd:=PySem.W.fnX name qual params body scope cl .none .none doc pm none (.ref c) ct) (body:=body) (binds:=ps.zip us) hr.depth (e0.bs _ _ C.fo).1 rfl lim hcode rfl hb S.nocell (fun y hy=>S.par y.1 (List.of_mem_zip hy).1) (fun h₁ hns hk=>?_) S.co S.gen S.kind
  obtain ⟨t,ht,hq⟩:=hbody (hr.deeper _)
  have I:=inv_clo (CX:=CX) (E:=E) (t1:=s.toks+(ps.zip us).length) S e0 C hl r hns hk
  refine wpAny_mono (ht [] _ _ H _ I hq) (fun fl s' hs=>?_) fun e s' hs=>hs
  have fin:∀ {σ':L2.St} {H':Hp} {v:V} {u:Value},Inv (cxClo CX P w K mg base (ps++cs) qual scope f c cl A outer s H E) [] σ' H' s'→RelV v u→Q v H'→CE outer P w H s Q u s' :=
    fun {σ' H' v u} J rv q=>⟨v,H',J.os,J.bare,J.base,J.hok,rv,q⟩
  cases fl with
  | ret u =>
    obtain ⟨v,σ',H',J,rv,q⟩:=hs
    exact fin J rv q
  | next =>
    obtain ⟨σ',H',J,q⟩:=hs
    exact fin (v:=V.non) (u:=Value.none) J rfl q
  | brk =>
    obtain ⟨_,_,_,q⟩:=hs
    exact False.elim q
  | cont =>
    obtain ⟨_,_,_,q⟩:=hs
    exact False.elim q
end L3
end
section
namespace L3
open PySem PySem.Spec PyProof.Rows L2 KM
def TabOk (H:Hp) (T:Addr) (qual:Str) (pos:Pos):Prop:=H T=some (.tbl (.tab qual (rawInt pos.line) (rawInt pos.col)))
theorem TabOk.mono {H H':Hp} {T:Addr} {qual:Str} {pos:Pos} (x:TabOk H T qual pos) (s:Same H H'):TabOk H' T qual pos:=s _ _ x
def NestK (K:PySem.W.Frag) (cc T:Addr):Prop:=PySem.W.codeHdIn K cc T=true
theorem builtins_at {K:PySem.W.Frag} {mg:Str→Option Value} {base h:Heap} {T:Addr} {ps:Array Value} (M:Mod K mg base) (k:∀ b o,base.get? b=some o→h.get? b=some o) (hT:h.get? T=some (PySem.W.tabObj ps)):mainGlobals≠T∧h.BuiltinsAt mg T:=by
  obtain ⟨bm,ob,b1,b2,b3,b4,b5,b6⟩:=M.bm
  obtain ⟨o,es,ep,e,hd,_⟩:=M.glob
  have e:=k _ _ e
  have b3:=k _ _ b3
  refine ⟨fun q=>?_,bm,ob,b1,b2,fun q=>?_,fun q=>?_,b3,b4,b5,b6⟩
  · rw [q,hT] at e; cases e; cases hd
  · rw [q,e] at b3; cases b3; rw [hd] at b6; cases b6
  · rw [q,hT] at b3; cases b3; cases b4
abbrev pnCx (X:Cx) (f:Addr) (fo:Obj):Cx:={ X with pn:=(f,fo)::X.pn }
section
variable {X:Cx} {pins:List (Addr×Obj)} {σ:L2.St} {H:Hp} {s:Shared} {f:Addr} {fo:Obj}
theorem hbp_more {base:Heap} {pn pn':List (Addr×Obj)} {A:Around} (h:HBp base pn A) (hs:∀ q∈pn,q∈pn'):HBp base pn' A:=by
  rcases h with h | ⟨a,oe,vs,e1,e2,e3⟩
  · exact .inl h
  · exact .inr ⟨a,oe,vs,e1,e2.imp id (hs _),e3⟩
theorem pn_ok (ok:X.Ok):(pnCx X f fo).Ok :=
  ⟨ok.mod,ok.kind,ok.glob,ok.blt,ok.above,ok.inj,ok.has,ok.cab,fun h=>hbp_more (ok.hd h) fun q hq=>List.mem_cons_of_mem _ hq,ok.frames,ok.stk,ok.exf,ok.bs,ok.bsz,ok.noex,ok.exfs,ok.funs,ok.frf⟩
theorem pn_in (I:Inv X pins σ H s) (e:s.heap.get? f=some fo) (n1:H f=none) (n2:f≠X.env.locals) (n3:f∉X.fs) (n4:∀ v,fo.data≠.cell v):Inv (pnCx X f fo) pins σ H s:=by
  refine ⟨pn_ok I.ok,I.os,I.bare,I.base,I.loc,I.cell,I.free,I.freeC,fun p hp=>?_,I.hok,I.len⟩
  rcases List.mem_cons.mp (show p∈(f,fo)::(X.pn++pins) from hp) with z | z
  · rw [z]
    exact ⟨e,n1,n2,n3,n4⟩
  · exact I.pin p z
theorem pn_out (ok:X.Ok) (I:Inv (pnCx X f fo) pins σ H s):Inv X pins σ H s:=⟨ok,I.os,I.bare,I.base,I.loc,I.cell,I.free,I.freeC,fun p hp=>I.pin p (List.mem_cons_of_mem _ hp),I.hok,I.len⟩
theorem pn_sp (ok:X.Ok) {D:Ends} {fl:Flow} (h:SP (pnCx X f fo) pins D fl s):SP X pins D fl s:=by
  cases fl with
  | next=>obtain ⟨σ',H',I,q⟩:=h; exact ⟨σ',H',pn_out ok I,q⟩
  | brk=>obtain ⟨σ',H',I,q⟩:=h; exact ⟨σ',H',pn_out ok I,q⟩
  | cont=>obtain ⟨σ',H',I,q⟩:=h; exact ⟨σ',H',pn_out ok I,q⟩
  | ret u=>obtain ⟨v,σ',H',I,r,q⟩:=h; exact ⟨v,σ',H',pn_out ok I,r,q⟩
end
abbrev cloObj (name qual:Str) (params:Arguments) (body:List Stmt) (scope:Scope) (cl:List (Str×Addr)) (doc pm:Value) (c:Addr) (ct:Value):Obj :=
  { cls:=.type "function",data:=.func (PySem.W.fnX name qual params body scope cl .none .none doc pm none (.ref c) ct) }
def tDef (i:Nat) (T:Addr) (qual:Str) (pos:Pos) (t:Addr→Addr→Value→Value→Value→TS):TS:=fun D σ H=>TabOk H T qual pos∧∀ (f c:Addr) (doc pm ct:Value) (H':Hp),Same H H'→H' c=some (CodeIs qual)→t f c doc pm ct D (σ.set i (some (.ref f))) H'
theorem tabUn {fs ex:List Addr} {H:Hp} {h h':Heap} {T c:Addr} {ps:TabS} {o:HO} (hT:H T=some (.tbl ps)) (hc:H c=none) (hs:h.objs.size≤c) (k:∀ b u,b≠T→h.get? b=some u→h'.get? b=some u) (hT':∃ u,h'.get? T=some u):Un fs ex H (upd H c o) h h':=by
  have nT:∀ b,H b=none→b≠T:=fun b n z=>by rw [z,hT] at n; cases n
  refine ⟨fun b u q n _ _=>k b u (nT b n) q,fun b u q n _ _=>⟨u.slots,k b u (nT b n) q⟩,fun b u q n _=>?_,fun b u q _=>?_,fun b xs q=>?_,fun b u xs q=>?_,fun b ps' q=>?_⟩
  · rw [upd_ne (Nat.ne_of_lt (Nat.lt_of_lt_of_le (Heap.lt_size q) hs))]
    exact n
  · by_cases z:b=T
    · rw [z]; exact hT'
    · exact ⟨u,k b u z q⟩
  all_goals
    rw [upd_ne (ne_of_none q hc)]
    exact q
theorem pss_def {X:Cx} {i:Nat} {cc T:Addr} {name qual:Str} {params:Arguments} {body:List Stmt} {scope:Scope} {pos:Pos} {rest:List Stmt} {cl:List (Str×Addr)} {t:Addr→Addr→Value→Value→Value→TS}
    (NK:NestK X.K cc T) (hcode:X.env.code=.ref cc) (hN:X.N.Nodup) (hi:X.N[i]?=some name) (hx:X.env.scope.names.lookup name=some .local) (hq:qualnameIn X.env name name=qual) (hcl:closureFor scope X.env=pure cl)
    (hr:∀ (f c:Addr) (doc pm ct:Value),PSs (pnCx X f (cloObj name qual params body scope cl doc pm c ct)) rest (t f c doc pm ct))
    (hd0:params.defaults=[]:=by rfl) (hk0:params.kw_defaults=[]:=by rfl) (ha:annTrees params none X.env=[]:=by rfl) :
    PSs X (.FunctionDef name params body [] none [] scope none name pos::rest) (tDef i T qual pos t):=by
  intro pins s σ H D I h
  obtain ⟨hT,h⟩:=h
  have key:∀ (f c:Addr) (doc pm ct:Value) (H':Hp) (s1:Shared),Inv X pins σ H' s1→s1.heap.get? f=some (cloObj name qual params body scope cl doc pm c ct)→H' f=none→f≠X.env.locals→f∉X.fs→Same H H'→H' c=some (CodeIs qual) →
      wpAny (model X.prog X.w) X.A (storeName X.env name (.ref f)) (fun _ s2=>wpAny (model X.prog X.w) X.A (execs rest X.env) (SP X pins D) X.xe s2) X.xe s1:=fun f c doc pm ct H' s1 I1 e1 e2 e3 e4 sx hc=>by
    have I2:=pn_in (fo:=cloObj name qual params body scope cl doc pm c ct) I1 e1 e2 e3 e4 (fun v z=>by cases z)
    refine store_ok (X:=pnCx X f (cloObj name qual params body scope cl doc pm c ct)) (i:=i) (v:=.ref f) I2 hN hi (.inl hx) rfl (fun s2 I3=>?_) (.inr hx)
    exact wpAny_mono (hr f c doc pm ct pins s2 _ H' D I3 (h f c doc pm ct H' sx hc)) (fun fl s3 q=>pn_sp I.ok q) fun _ _ z=>z
  have KX:=I.kIn
  have hg:s.heap.Ns mainGlobals X.mg:=I.mod.glob.keeps I.bk
  obtain ⟨m,⟨oL,esL,epL,hoL,_⟩,_⟩:=id I.loc
  have hlL:X.env.locals<s.heap.objs.size:=Heap.lt_size hoL
  have frn:∀ b:Addr,s.heap.objs.size≤b→b∉X.fs:=fun b hb hm=>by
    obtain ⟨_,o',ho,_⟩:=I.funs.mem hm
    exact absurd (Heap.lt_size ho) (Nat.not_lt.mpr hb)
  have hd:PySem.W.CodeHd s.heap cc T:=PySem.W.codeHd_of_K KX NK
  refine wpAny_execs_cons (PySem.W.nestDef_K hd0 hk0 ha ?_)
  rw [hq]
  rcases (show ObjOk X.prog X.w H s.heap T (.tbl (.tab qual (rawInt pos.line) (rawInt pos.col))) from I.hok T _ hT) with hP | ⟨c,hP,hc⟩
  · have hP:s.heap.get? T=some (PySem.W.tabObj #[]):=hP
    obtain ⟨hne,hbt⟩:=builtins_at I.mod I.bk hP
    refine PySem.W.makeFunction_K hcl I.ok.glob hg hcode hd hP trivial rfl hne hbt fun c' ctv doc h' tk hx1 hge hlt hrec hP'=>?_
    have hcn:H c'=none:=I.hok.fresh hge
    have hkp:∀ b u,b≠T→s.heap.get? b=some u→(h'.push (PySem.W.fnMade name qual params body scope cl doc ((X.mg "__name__").getD .none) c' ctv)).get? b=some u:=fun b u n e=>Heap.get?_push_of_some _ (hx1 b u n e)
    have hPp:(h'.push (PySem.W.fnMade name qual params body scope cl doc ((X.mg "__name__").getD .none) c' ctv)).get? T=some (PySem.W.tabObj (#[]++#[rawInt pos.line,rawInt pos.col,.ref c'])):=Heap.get?_push_of_some _ hP'
    have nTc:T≠c':=ne_of_none hT hcn
    have hcode':=hrec.push (PySem.W.fnMade name qual params body scope cl doc ((X.mg "__name__").getD .none) c' ctv)
    have hok':HOk X.prog X.w (upd H c' (CodeIs qual)) (h'.push (PySem.W.fnMade name qual params body scope cl doc ((X.mg "__name__").getD .none) c' ctv)):=fun b u e=>by
      by_cases hb:b=c'
      · rw [hb,upd_same] at e
        cases e
        rw [hb]
        exact hcode'
      · rw [upd_ne hb] at e
        by_cases hb2:b=T
        · rw [hb2,hT] at e
          cases e
          rw [hb2]
          exact .inr ⟨c',hPp,upd_same⟩
        · have nT2:∀ c2,H c2=some (.own b)→c2≠T:=fun c2 q z=>by rw [z,hT] at q; cases q
          refine (I.hok b u e).stay (fun c2 o hc2 q=>hkp c2 o ?_ q) (fun c2 q=>?_) fun c2 xs q=>?_
          · rcases hc2 with rfl | q2
            · exact hb2
            · exact nT2 _ q2
          · rw [upd_ne (ne_of_none q hcn)]; exact q
          · rw [upd_ne (ne_of_none q hcn)]; exact q
    have I1:=I.un (t':=tk) (tabUn (o:=CodeIs qual) hT hcn hge hkp ⟨_,hPp⟩) hok'
    have hsz:s.heap.objs.size≤h'.objs.size:=Nat.le_trans hge (Nat.le_of_lt hlt)
    refine key h'.objs.size c' _ _ _ _ _ I1 (Heap.get?_push_size _ rfl) ?_ (Nat.ne_of_gt (Nat.lt_of_lt_of_le hlL hsz)) (frn _ hsz) (fun b o e=>?_) upd_same
    · rw [upd_ne (Nat.ne_of_gt hlt)]
      exact I.hok.fresh hsz
    · rw [upd_ne (ne_of_none e hcn)]; exact e
  · have hP:s.heap.get? T=some (PySem.W.tabObj #[rawInt pos.line,rawInt pos.col,.ref c]):=hP
    obtain ⟨hne,hbt⟩:=builtins_at I.mod I.bk hP
    refine PySem.W.makeFunction_hit (cv:=.ref c) hcl I.ok.glob hg hcode hd hP ?_ ?_ hbt fun ctv doc h' tk hk' hsz=>?_
    · simp [TriplesOk,rawInt]
    · simp [codeAmong,rawInt]
    have I1:=I.kept (h':=h'.push { cls:=.type "function",data:=.func (PySem.W.fnX name qual params body scope cl .none .none doc ((X.mg "__name__").getD .none) none (.ref c) ctv) }) (t':=tk) fun b u e=>Heap.get?_push_of_some _ (hk' b u e)
    exact key h'.objs.size c _ _ _ _ _ I1 (Heap.get?_push_size _ rfl) (I.hok.fresh hsz) (Nat.ne_of_gt (Nat.lt_of_lt_of_le hlL hsz)) (frn _ hsz) (fun b o e=>e) hc
end L3
end
section
namespace L3
open PySem PySem.Spec PyProof.Rows L2 KM
def CalB (P:Program) (w:World) (K:PySem.W.Frag) (mg:Str→Option Value) (CX:CXT) (x:Str) (k:Nat) (ps:List Str) (sp:Heap→Sp):Prop :=
  ∃ f fd,(∀ base,FnOk P w K mg base CX k f fd ps (sp base))∧mg x=some (.ref f)∧PySem.W.keepIn K (.ref f)=true∧Binds K fd ps []
section
variable {P:Program} {w:World} {K:PySem.W.Frag} {mg:Str→Option Value}
theorem Df.okB {x:Str} {st:Stmt} {N ps:List Str} {k:Nat} {sp:Heap→Sp} (D:Df K mg x st ps) (S:FnScope N ps (defScope st)) (len:∀ base vs H Q E,sp base vs H Q E→vs.length=ps.length)
    (hbody:∀ (base:Heap) (f:Addr) (cdv:Value) (A:Around) (outer:List Env) (s:Shared) (H:Hp) (vs:List V) (Q:VK) (E:XK),Room k (A.deeper (envOfC x (defScope st) s.heap.objs.size f cdv))→sp base vs H Q E →
      ∃ t,PSs (cxOf CX0 P w K mg base N x (defScope st) f cdv A outer s H E).nox (defBody st) t∧t { nx:=fun _ H'=>Q .non H',rt:=Q } (start N vs) H):CalB P w K mg CX0 x (k+1) ps sp:=by
  obtain ⟨f,fd,F,m,b⟩:=D
  exact ⟨f,fd,fun base=>F.ok S (len base) (hbody base f),m,F.kp,b⟩
theorem CalB.never {x:Str} {st:Stmt} {ps:List Str} {sp:Heap→Sp} {k:Nat} {CX:CXT} (D:Df K mg x st ps) (no:∀ base vs H Q E,¬ sp base vs H Q E):CalB P w K mg CX x k ps sp:=by
  obtain ⟨f,fd,F,m,b⟩:=D
  exact ⟨f,fd,fun base=>⟨fun vs H Q E h=>absurd h (no base vs H Q E),fun A outer s H args us vs Q E _ _ _ _ h=>absurd h (no base vs H Q E)⟩,m,F.kp,b⟩
end
structure BaseUp (X:Cx) (σ:L2.St) (b':Heap):Prop where
  old:∀ b o,X.base.get? b=some o→b'.get? b=some o
  pin:∀ q∈X.pn,b'.get? q.1=some q.2
  cell:∀ (i:Nat) (x:Str) (v:V),X.N[i]?=some x→σ[i]?=some (some v)→X.env.kindOf x=some .cell→X.fn x=true→∃ c u,X.env.cells.lookup x=some c∧RelV v u∧b'.IsCell c (some u)
theorem baseUp {X:Cx} {pins:List (Addr×Obj)} {σ:L2.St} {H:Hp} {s:Shared} (I:Inv X pins σ H s):BaseUp X σ (hidX s.heap H (frs X.stack)):=by
  have nf:∀ b o,X.base.get? b=some o→b∉frs X.stack:=fun b o e z=>by
    rcases List.mem_cons.mp (I.stkSub b z) with z | z
    · have:=Heap.lt_size e
      rw [z] at this
      exact absurd this (Nat.not_lt.mpr (Nat.le_trans I.ok.bsz I.ok.above))
    · exact I.ok.nofr e z
  refine ⟨fun b o e=>hidX_get (I.bs b o e).1 (I.bs b o e).2 (nf b o e),fun q hq=>?_,fun i x v h1 h2 h3 h4=>?_⟩
  · obtain ⟨q1,q2,q3,q4,_⟩:=I.pin q (List.mem_append_left _ hq)
    refine hidX_get q1 q2 fun z=>?_
    rcases List.mem_cons.mp (I.stkSub _ z) with z | z
    · exact q3 z
    · exact q4 z
  · obtain ⟨m,hn,hl⟩:=I.loc
    obtain ⟨u,r,l⟩:=hl i x v h1 h2 (.inr (.inl h3))
    rcases l with ⟨hk,_⟩ | ⟨_,c,hc,o,ho,hd⟩
    · rw [h3] at hk; cases hk
    · refine ⟨c,u,hc,r,o,hidX_get ho (I.freeC x c hc) fun z=>?_,hd⟩
      rcases List.mem_cons.mp (I.stkSub _ z) with z | z
      · exact I.cne x c hc z
      · obtain ⟨_,o',ho',_⟩:=I.ok.funs.mem z
        exact absurd (Heap.lt_size ho') (Nat.not_lt.mpr (I.ok.cab x c h4 hc))
def tCallB (X:Cx) (sp:Heap→Sp) (E:XK) (t:TA):TE:=fun σ H Q=>t σ H fun vs H1=>∀ b',BaseUp X σ b'→sp b' vs H1 Q E
theorem pe_fnB {X:Cx} {CX:CXT} {x:Str} {k:Nat} {ps:List Str} {sp:Heap→Sp} {E:XK} {e:Expr} {es:List Expr} {t:TA} {p pos:Pos} (F:CalB X.prog X.w X.K X.mg CX x k ps sp) (hr:Room k X.A) (hg:Gl X x) (hx:Passes CX X E)
    (ha:PA X (e::es) t) (hdb:(x==("__debug__" : Str))=false:=by decide) (he:starEach (e::es) X.env=(false,eval e X.env)::starEach es X.env:=by rfl) (hpl:(backTo pos (starEach es X.env)).any (·.1)=false:=by rfl) (hc:X.calm=true:=by rfl) :
    PE X (.Call (.Name x p) (e::es) [] pos) (tCallB X sp E t):=by
  obtain ⟨f,fd,F,m,kp,b⟩:=F
  intro pins s σ H Q I h
  refine wpAny_Call_Name_kw (ld_glob I hg m ?_ hdb)
  refine PySem.W.callWith_K (h₀:=X.base) I.ok.mod.kin kp (thn (ha pos pins s σ H _ I h) fun us s1 ⟨vs,H1,I1,r,q⟩=>⟨I1.kIn,?_⟩) he hpl
  have q:=q _ (baseUp I1)
  have hl:us.length=ps.length:=by rw [← r.length]; exact (F (hidX s1.heap H1 (frs X.stack))).len _ _ _ _ q
  have bt:=b s1 us I1.kIn (by rw [List.append_nil]; exact hl)
  rw [List.append_nil] at bt
  refine wpAny_call (codeAny_mono ((F _).run X.A X.stack s1 H1 ⟨us,[]⟩ us vs Q E hr (env1 I1 hc) bt r q) fun r' s' hq=>?_)
  cases r' with
  | error e=>exact hx pins σ H1 s1 e s' I1 hq
  | ok fl =>
    cases fl with
    | ret u=>exact I1.after hq
    | next=>exact False.elim hq
    | brk=>exact False.elim hq
    | cont=>exact False.elim hq
def CloCal (P : Program) (w : World) (K : PySem.W.Frag) (mg : Str → Option Value) (base : Heap) (k : Nat) (f : Addr) (sp : Sp) : Prop :=
  PySem.W.FnAt f base∧∀ (base':Heap),(∀ b o,base.get? b=some o→base'.get? b=some o)→∀ (A:Around) (outer:List Env) (s:Shared) (H:Hp) (us:List Value) (vs:List V) (Q:VK),Room k A→Env0 P w K mg base' A outer s H→Vals vs us→sp vs H Q E0 →
    codeAny (model P w) A (.call (.ref f) ⟨us,[]⟩) (CR CX0 A.handled outer P w H s Q E0) s
theorem CloCal.up {P:Program} {w:World} {K:PySem.W.Frag} {mg:Str→Option Value} {base base':Heap} {k:Nat} {f:Addr} {sp:Sp} (C:CloCal P w K mg base k f sp) (k':∀ b o,base.get? b=some o→base'.get? b=some o):CloCal P w K mg base' k f sp :=
  ⟨let ⟨oc,od,fd,sl,e⟩:=C.1; ⟨oc,od,fd,sl,k' _ _ e⟩,fun b'' h=>C.2 b'' fun b o e=>h b o (k' b o e)⟩
def tCallV (i:Nat) (f:Addr) (sp:Sp) (t:TA):TE:=fun σ H Q=>σ[i]?=some (some (.ref f))∧t σ H fun vs H1=>sp vs H1 Q E0
theorem pe_callv {X:Cx} {x:Str} {k i:Nat} {f:Addr} {sp:Sp} {e:Expr} {es:List Expr} {t:TA} {p pos:Pos} (C:CloCal X.prog X.w X.K X.mg X.base k f sp) (hr:Room k X.A) (hN:X.N[i]?=some x) (hv:Vis X.env.scope x)
    (ha:PA X (e::es) t) (hdb:(x==("__debug__" : Str))=false:=by decide) (hcd:(x==("__classdict__" : Str))=false:=by decide) (he:starEach (e::es) X.env=(false,eval e X.env)::starEach es X.env:=by rfl) (hpl:(backTo pos (starEach es X.env)).any (·.1)=false:=by rfl) (hc:X.calm=true:=by rfl) :
    PE X (.Call (.Name x p) (e::es) [] pos) (tCallV i f sp t):=by
  intro pins s σ H Q I h
  obtain ⟨hσ,h⟩:=h
  refine wpAny_Call_Name_kw (wpAny_mono (pe_var (X:=X) (i:=i) hN hv hdb hcd pins s σ H (fun v H'=>v=.ref f∧H'=H) I ⟨.ref f,hσ,rfl,rfl⟩) (fun u s0 hu=>?_) fun _ _ z=>z)
  obtain ⟨v,H0,I0,ru,rfl,rfl⟩:=hu
  cases (show u=Value.ref f from ru)
  have fnat:∀ {pins':List (Addr×Obj)} {σ':L2.St} {H':Hp} {s':Shared},Inv X pins' σ' H' s'→PySem.W.FnAt f s'.heap:=fun {pins' σ' H' s'} J=>let ⟨oc,od,fd,sl,e⟩:=C.1; ⟨oc,od,fd,sl,(J.bs _ _ e).1⟩
  refine PySem.W.callWith_F (fnat I0) (thn (ha pos pins s0 σ H0 _ I0 h) fun us s1 ⟨vs,H1,I1,r,q⟩=>⟨fnat I1,?_⟩) he hpl
  have B:=baseUp I1
  refine wpAny_call (codeAny_mono (C.2 _ B.old X.A X.stack s1 H1 us vs Q hr (env1 I1 hc) r q) fun r' s' hq=>?_)
  cases r' with
  | error e=>exact hq.elim
  | ok fl =>
    cases fl with
    | ret u=>exact I1.after hq
    | next=>exact False.elim hq
    | brk=>exact False.elim hq
    | cont=>exact False.elim hq
end L3
end
section
namespace L3
open PySem PySem.Spec PyProof.Rows L2 KM
abbrev Tabs:=List (Addr×Addr×TabS)
structure TabsOk (K:PySem.W.Frag) (h:Heap) (ts:Tabs):Prop where
  emp:∀ q∈ts,h.get? q.2.1=some (PySem.W.tabObj #[])
  hd:∀ q∈ts,PySem.W.codeHdIn K q.1 q.2.1=true
  out:∀ q∈ts,K.lookup q.2.1=none
  tab:∀ q∈ts,∃ x l c,q.2.2=.tab x l c
def firstH (K:PySem.W.Frag) (a:Addr) (o:Obj) (xs:List V) (ts:Tabs):Hp:=fun b=>if b=a∧K.lookup a=none then some (.frz o (.lst xs)) else ((ts.map (·.2)).lookup b).map HO.tbl
theorem codeTab {K:PySem.W.Frag} {h:Heap} {c T:Addr} (X:K.In h) (e:PySem.W.codeHdIn K c T=true):isCodeTable h T:=by
  obtain ⟨o,vs,f,tf,fl,tg,b,n,tt,e1,e2,e3,e4,_⟩:=PySem.W.codeHd_of_K X e
  exact ⟨c,o,vs,e1,e2,e3,e4⟩
theorem mem_look {β:Type}:∀ {l:List (Addr×β)} {x:Addr} {v:β},l.lookup x=some v→(x,v)∈l
  | [],_,_,h=>by simp at h
  | (y,w)::l,x,v,h=>by
    rw [List.lookup_cons] at h
    by_cases e:(x==y)=true
    · rw [e] at h
      have:=beq_iff_eq.mp e
      subst this
      cases h
      exact List.mem_cons_self
    · rw [show (x==y)=false by simpa using e] at h
      exact List.mem_cons_of_mem _ (mem_look h)
theorem look_mem {ts:Tabs} {b:Addr} {s:TabS} (e:(ts.map (·.2)).lookup b=some s):∃ q∈ts,q.2.1=b∧q.2.2=s:=by
  have:=mem_look e
  obtain ⟨q,hq,z⟩:=List.mem_map.mp this
  exact ⟨q,hq,by rw [z],by rw [z]⟩
theorem law_callT {P:Program} {w:World} {K:PySem.W.Frag} {mg mb:Str→Option Value} {k:Nat} {fa a:Addr} {fd:FuncData} {x:Str} {sp:Sp} {s₁:Shared} {vs:List Value} {ns:List Int} {ts:Tabs}
    (KX:K.In s₁.heap) (hns:s₁.heap.Ns mainGlobals mg) (hb:s₁.heap.Ns builtinsNs mb) (hbb:∀ x:Str,x ≠ "__name__" → mb x=bootBuiltins x) (hlim:s₁.heap.NoLimit) (hbm:BmK mg s₁.heap) (hg:s₁.gens=#[])
    (ha:s₁.heap.get? a=some { cls:=.type "list",data:=.seq vs.toArray }) (hi:IntsAre vs ns) (hl:ns.length≤sizeLine) (hr:Room k callerA) (T:TabsOk K s₁.heap ts)
    (F:∀ base:Heap,FnOk P w K mg base CX0 k fa fd [x] sp) (hbind:∀ (s:Shared) (u:Value),BindsTo s fd ⟨[u],[]⟩ [(x,u)])
    (hsp:∀ H:Hp,(∀ q∈ts,(ts.map (·.2)).lookup q.2.1=some q.2.2→H q.2.1=some (.tbl q.2.2))→SqL K H a (ns.map V.int)→sp [.ref a] H (fun v _=>v=.bl true) E0) :
    codeAny (model P w) callerA (.call (.ref fa) ⟨[.ref a],[]⟩) (fun r s'=>r=.ok (.ret (.bool true))∧OldK s₁.heap s'.heap∧s'.os=s₁.os∧AllBare s'.gens) s₁:=by
  have rv:=vals_ints hi
  have lenV:=hi.length
  let o:Obj:={ cls:=.type "list",data:=.seq vs.toArray }
  let H:=firstH K a o (ns.map V.int) ts
  have nT:∀ q∈ts,q.2.1≠a:=fun q hq z=>by
    have:=T.emp q hq
    rw [z,ha] at this
    cases this
  have HT:∀ q∈ts,(ts.map (·.2)).lookup q.2.1=some q.2.2→H q.2.1=some (.tbl q.2.2):=fun q hq e=>by
    show (if q.2.1=a∧K.lookup a=none then _ else _)=_
    rw [if_neg fun z=>nT q hq z.1,e]
    rfl
  -- what may be tracked
  have only:∀ b u,H b=some u→(b=a∧K.lookup a=none∧u=.frz o (.lst (ns.map V.int)))∨∃ q∈ts,q.2.1=b∧u=.tbl q.2.2:=fun b u e=>by
    have e:(if b=a∧K.lookup a=none then some (.frz o (.lst (ns.map V.int))) else ((ts.map (·.2)).lookup b).map HO.tbl)=some u:=e
    by_cases hb:b=a∧K.lookup a=none
    · rw [if_pos hb] at e
      exact .inl ⟨hb.1,hb.2,(Option.some.inj e).symm⟩
    · rw [if_neg hb] at e
      obtain ⟨s,e1,e2⟩:=Option.map_eq_some_iff.mp e
      obtain ⟨q,hq,r1,r2⟩:=look_mem e1
      exact .inr ⟨q,hq,r1,by rw [r2,e2]⟩
  have objs:∀ b u,H b=some u→(b=a)∨s₁.heap.get? b=some (PySem.W.tabObj #[]):=fun b u e=>by
    rcases only b u e with ⟨z,_⟩ | ⟨q,hq,z,_⟩
    · exact .inl z
    · exact .inr (by rw [← z]; exact T.emp q hq)
  have free:∀ {b:Addr} {ob:Obj},s₁.heap.get? b=some ob→ob.data≠.seq vs.toArray→ob.data≠.fields #[]→H b=none:=fun {b ob} e n1 n2=>by
    cases q:H b with
    | none=>rfl
    | some u =>
      rcases objs b u q with z | z
      · rw [z,ha] at e; cases e; exact absurd rfl n1
      · rw [e] at z; cases z; exact absurd rfl n2
  have nsK:∀ {b:Addr} {m:Str→Option Value},s₁.heap.Ns b m→(hidT s₁.heap H).Ns b m:=fun {b m} ⟨ob,es,ep,e,d,r⟩=>⟨ob,es,ep,hidT_get e (free e (by rw [d]; simp) (by rw [d]; simp)),d,r⟩
  have hKb:K.In (hidT s₁.heap H):=fun b ob e=>hidT_get (KX b ob e) (by
    cases q:H b with
    | none=>rfl
    | some u =>
      rcases only b u q with ⟨z,z2,_⟩ | ⟨q',hq,z,_⟩
      · rw [z,z2] at e; cases e
      · rw [← z,T.out q' hq] at e; cases e)
  have hok:HOk P w H s₁.heap:=fun b u e=>by
    rcases only b u e with ⟨z,_,rfl⟩ | ⟨q,hq,z,rfl⟩
    · rw [z]
      exact ⟨ha,by rw [List.length_map]; exact hl,vs,_,rv,ha⟩
    · obtain ⟨x',l,c,ex⟩:=T.tab q hq
      rw [ex]
      exact .inl (by rw [← z]; exact T.emp q hq)
  have hS:SqL K H a (ns.map V.int):=by
    cases hk:K.lookup a with
    | none =>
      refine .inl (.inr ⟨o,?_⟩)
      show (if a=a∧K.lookup a=none then _ else _)=_
      rw [if_pos ⟨rfl,hk⟩]
    | some ob =>
      have e:=KX a ob hk
      rw [ha] at e
      cases e
      exact .inr ⟨_,vs.toArray,_,hk,rfl,rfl,rfl,by rw [List.size_toArray,lenV]; exact hl,by simpa using rv⟩
  have hM:Mod K mg (hidT s₁.heap H):=⟨hKb,nsK hns,⟨mb,nsK hb,hbb⟩,let ⟨mc,h1,h2⟩:=hlim; ⟨mc,nsK h1,h2⟩,
    let ⟨bm,ob,e1,e2,e3,e4⟩:=hbm; ⟨bm,ob,e1,e2,hidT_get e3 (free e3 (by rw [e4.2.2]; simp) (by rw [e4.2.2]; simp)),e4⟩⟩
  have e0:Env0 P w K mg (hidT s₁.heap H) callerA [] s₁ H:=⟨rfl,hM,fun b ob e=>of_hidT e,Nat.le_of_eq (hidT_size _ _),trivial,fun b hb=>absurd (show b∈([]:List Addr) from hb) (by simp),hok,.of_eq hg,.inl rfl⟩
  refine codeAny_mono ((F _).run callerA [] s₁ H ⟨[.ref a],[]⟩ [.ref a] [.ref a] _ _ hr e0 (hbind s₁ (.ref a)) (.cons rfl .nil) (hsp H HT hS)) fun r s' h=>?_
  cases r with
  | error e=>exact (show False from h).elim
  | ok fl =>
    cases fl with
    | next=>exact False.elim h
    | brk=>exact False.elim h
    | cont=>exact False.elim h
    | ret u =>
      obtain ⟨v,H',os,bare,un,hok',r',q⟩:=h
      have q':v=.bl true:=q
      subst q'
      obtain rfl:u=Value.bool true:=r'
      refine ⟨rfl,⟨fun b ob e=>?_,fun b ob e=>un.there b ob e (by simp)⟩,os,bare⟩
      cases q:H b with
      | none=>exact .inl (un.keep b ob e q (by intro z; exact absurd (show b∈([]:List Addr) from z) (by simp)) (by simp))
      | some u =>
        rcases only b u q with ⟨z,_,rfl⟩ | ⟨q',hq,z,rfl⟩
        · obtain ⟨e2,_⟩:=hok' b _ (un.frzs b o _ q)
          rw [z,ha] at e
          cases e
          exact .inl e2
        · obtain ⟨x',l,c,ex⟩:=T.tab q' hq
          have em:=T.emp q' hq
          rw [z,e] at em
          cases em
          rw [ex] at q
          rcases hok' b _ (un.tbls b _ q) with e2 | ⟨c',e2,_⟩
          · exact .inl e2
          · exact .inr (.inl ⟨by rw [← z]; exact codeTab KX (T.hd q' hq),rfl,#[],_,rfl,by rw [Array.empty_append]; exact e2⟩)
theorem walk_ofT {l:PySem.W.OpenLaw} {n k:Nat} {q:Program} {loose:List Str} {XP:(Str→Option Value)→Heap→Prop} {YP:World→Heap→Prop} {d:DefRec} {K:Params→PySem.W.Frag} {sp:World→Sp} {x:Str} {ts:Tabs}
    (hn:l.most=some n) (hn2:n≤sizeLine) (hdf:d.params.defaults=[]) (hr:Room k callerA)
    (hY:∀ (w:World) (h:Heap),YP w h→(K w.params).In h) (hT:∀ (w:World) (h:Heap),YP w h→TabsOk (K w.params) h ts)
    (F:∀ (w:World) (mg:Str→Option Value) (fa:Addr) (h:Heap),(K w.params).In h→h.Ns mainGlobals mg→mg d.name=some (.ref fa) →
      ∃ fd:FuncData,(∀ (s:Shared) (u:Value),BindsTo s fd ⟨[u],[]⟩ [(x,u)])∧∀ base:Heap,FnOk l.prog w (K w.params) mg base CX0 k fa fd [x] (sp w))
    (hsp:∀ (w:World) (H:Hp) (a:Addr) (ns:List Int),ns.length≤n→(∀ q∈ts,(ts.map (·.2)).lookup q.2.1=some q.2.2→H q.2.1=some (.tbl q.2.2))→SqL (K w.params) H a (ns.map V.int)→sp w [.ref a] H (fun v _=>v=.bl true) E0) :
    PySem.W.WalkO q loose XP YP l.row.toRowW d [] (fun f vs=>PySem.call f vs):=by
  refine Att.attach_call hn hdf fun w s₀ s₁ mg mb fa o pm cd doc a vs ns G Y ho hd hcd hmg hobj hints hlen hg=>?_
  have KX:=hY w _ Y
  obtain ⟨fd,hb,hF⟩:=F w mg fa _ KX G.T.g hmg
  exact law_callT KX G.T.g G.T.b G.T.builtins G.T.nolimit G.T.bmain hg hobj hints (Nat.le_trans hlen hn2) hr (hT w _ Y) hF hb fun H hO hS=>hsp w H a ns hlen hO hS
def Nst (K:PySem.W.Frag) (f T:Addr):Prop:=∃ oc od fd osl cc,K.lookup f=some ⟨oc,od,.func fd,osl⟩∧fd.code=.ref cc∧NestK K cc T
def DfN (K:PySem.W.Frag) (mg:Str→Option Value) (x:Str) (st:Stmt) (ps:List Str) (T:Addr):Prop:=∃ f fd,Fun K x x st f fd∧mg x=some (.ref f)∧Binds K fd ps []∧Nst K f T
theorem DfN.ok {P:Program} {w:World} {K:PySem.W.Frag} {mg:Str→Option Value} {x:Str} {st:Stmt} {N ps:List Str} {k:Nat} {sp:Sp} {T:Addr} (D:DfN K mg x st ps T) (S:FnScope N ps (defScope st)) (len:∀ vs H Q E,sp vs H Q E→vs.length=ps.length)
    (hbody:∀ (base:Heap) (f cc:Addr) (A:Around) (outer:List Env) (s:Shared) (H:Hp) (vs:List V) (Q:VK) (E:XK),NestK K cc T→Room k (A.deeper (envOfC x (defScope st) s.heap.objs.size f (.ref cc)))→sp vs H Q E →
      ∃ t,PSs (cxOf CX0 P w K mg base N x (defScope st) f (.ref cc) A outer s H E).nox (defBody st) t∧t { nx:=fun _ H'=>Q .non H',rt:=Q } (start N vs) H):Cal P w K mg CX0 x (k+1) ps sp:=by
  obtain ⟨f,fd,F,m,b,n⟩:=D
  refine ⟨f,fd,fun base=>?_,m,F.kp,b⟩
  obtain ⟨oc,od,kV,doc,pm,an,cdv,ct,osl,rfl,lk,hcd⟩:=F.ex
  obtain ⟨oc',od',fd',osl',cc,lk',hc,nk⟩:=n
  rw [lk] at lk'
  cases lk'
  have hc:cdv=.ref cc:=hc
  subst hc
  exact fn_of lk hcd S len fun A outer s H vs Q E hr hsp =>
    let ⟨t,h,q⟩:=hbody base f cc A outer s H vs Q E nk hr hsp
    ⟨t,h.nox,q⟩
theorem dfn_of {K:PySem.W.Frag} {mg:Str→Option Value} {h:Heap} {x:Str} {st:Stmt} {ps:List Str} {c T:Addr} (D:Df K mg x st ps) (X:K.In h) (G:h.Ns mainGlobals mg) (ht:PySem.W.tabIn K x=some (c,T)) (hd:PySem.W.codeHdIn K c T=true):DfN K mg x st ps T:=by
  obtain ⟨f,fd,F,m,b⟩:=D
  obtain ⟨oc,od,kV,doc,pm,an,cdv,ct,osl,rfl,lk,hcd⟩:=id F.ex
  exact ⟨f,_,F,m,b,oc,od,_,osl,c,lk,PySem.W.law_code X G ht m (X _ _ lk) rfl,hd⟩
end L3
end
section
namespace L3
open PySem PySem.Spec PyProof.Rows L2 KM
def defPos (s:Stmt):Pos:=match s with
  | .FunctionDef _ _ _ _ _ _ _ _ _ p=>p
  | _=>⟨0,0,0,0⟩
def cloChk (ps cs:List Str) (names:List (Str×NameKind)):Bool :=
  names.all (fun y=>y.2 != .cell && (y.2 != .free || cs.contains y.1)) && ps.all (fun x=>names.lookup x==some .local) && cs.all (fun x=>names.lookup x==some .free) && decide (ps++cs).Nodup
theorem cloScope_of {ps cs:List Str} {scope:Scope} (h1:scope.kind=.function) (h2:scope.isCoroutine=false) (h3:scope.isGenerator=false) (h:cloChk ps cs scope.names=true):CloScope ps cs scope:=by
  unfold cloChk at h
  simp only [Bool.and_eq_true,List.all_eq_true,decide_eq_true_eq] at h
  obtain ⟨⟨⟨a,b⟩,c⟩,d⟩:=h
  refine ⟨h1,h2,h3,fun y hy=>?_,fun x hx=>?_,d,fun x hx=>?_,fun x e=>?_⟩
  · simpa using (a y hy).1
  · simpa using b x hx
  · simpa using c x hx
  · have:=(a _ (PySem.mem_of_lookup e)).2
    simpa using this
theorem look_inj {cl:List (Str×Addr)} (nd:(cl.map (·.2)).Nodup):∀ x y a,cl.lookup x=some a→cl.lookup y=some a→x=y:=fun x y a h1 h2=>by
  have m1:=PySem.mem_of_lookup h1
  have m2:=PySem.mem_of_lookup h2
  obtain ⟨i,hi,e1⟩:=List.mem_iff_getElem.mp m1
  obtain ⟨j,hj,e2⟩:=List.mem_iff_getElem.mp m2
  have:i=j:=(List.getElem_inj (i:=i) (j:=j) (h₀:=by simpa using hi) (h₁:=by simpa using hj) nd).mp (by rw [List.getElem_map,List.getElem_map,e1,e2])
  subst this
  rw [e1] at e2
  exact (Prod.mk.inj e2).1
theorem clo_at {X:Cx} {σ:L2.St} {b':Heap} {f c:Addr} {name qual:Str} {params:Arguments} {body:List Stmt} {scope:Scope} {cl:List (Str×Addr)} {doc pm ct:Value} {cs:List Str} {ws:List V}
    (B:BaseUp (pnCx X f (cloObj name qual params body scope cl doc pm c ct)) σ b') (hcs:cl.map (·.1)=cs) (hnd:(cl.map (·.2)).Nodup) (hl:ws.length=cs.length)
    (hcell:∀ (i:Nat) (x:Str),cs[i]?=some x→∃ (j:Nat) (v:V),ws[i]?=some v∧X.N[j]?=some x∧σ[j]?=some (some v)∧X.env.kindOf x=some .cell∧X.fn x=true∧cl.lookup x=X.env.cells.lookup x):CloAt b' f c name qual params body scope cs ws cl doc pm ct:=by
  refine ⟨B.pin (f,cloObj name qual params body scope cl doc pm c ct) List.mem_cons_self,look_inj hnd,fun x a e=>?_,fun i x e=>?_,hl⟩
  · rw [← hcs]
    exact List.mem_map.mpr ⟨_,PySem.mem_of_lookup e,rfl⟩
  · obtain ⟨j,v,e1,e2,e3,e4,e5,e6⟩:=hcell i x e
    obtain ⟨a,u,r1,r2,r3⟩:=B.cell j x v e2 e3 e4 e5
    exact ⟨v,a,u,e1,by rw [e6]; exact r1,r2,r3⟩
theorem clo_cal {P:Program} {w:World} {K:PySem.W.Frag} {mg:Str→Option Value} {base:Heap} {k:Nat} {ps cs:List Str} {name qual:Str} {params:Arguments} {body:List Stmt} {scope:Scope} {f c:Addr} {cl:List (Str×Addr)} {doc pm ct:Value} {ws:List V} {sp:Sp}
    (S:CloScope ps cs scope) (C:CloAt base f c name qual params body scope cs ws cl doc pm ct) (hb:∀ us:List Value,us.length=ps.length→bindArgs (PySem.W.fnX name qual params body scope cl .none .none doc pm none (.ref c) ct) ⟨us,[]⟩=pure (ps.zip us))
    (hsp:∀ vs H Q,sp vs H Q E0→vs.length=ps.length∧H c=some (CodeIs qual))
    (hbody:∀ (base':Heap) (A:Around) (outer:List Env) (s:Shared) (H:Hp) (vs:List V) (Q:VK),Room k (A.deeper (cloEnv qual scope s.heap.objs.size f c cl))→sp vs H Q E0 →
      ∃ t,PSs (cxClo CX0 P w K mg base' (ps++cs) qual scope f c cl A outer s H E0) body t∧t { nx:=fun _ H'=>Q .non H',rt:=Q } (vs.map some++ws.map some) H):CloCal P w K mg base (k+1) f sp:=by
  refine ⟨⟨_,_,_,_,C.fo⟩,fun base' up A outer s H us vs Q hr e0 r h=>?_⟩
  obtain ⟨hl,hc⟩:=hsp vs H Q h
  exact clo_run S e0 hr (C.keeps up) hc hl r (.of_eq (hb us (by rw [← r.length]; exact hl))) fun hr'=>hbody base' A outer s H vs Q hr' h
end L3
end
section
namespace L3
open PySem PySem.Spec PyProof.Rows L2 KM
def tCallU (base:Heap) (sp:Heap→Sp) (E:XK) (t:TA):TE:=fun σ H Q=>t σ H fun vs H1=>∀ b',(∀ b o,base.get? b=some o→b'.get? b=some o)→sp b' vs H1 Q E
theorem pe_fnU {X:Cx} {base:Heap} {CX:CXT} {x:Str} {k:Nat} {ps:List Str} {sp:Heap→Sp} {E:XK} {e:Expr} {es:List Expr} {t:TA} {p pos:Pos} (F:CalB X.prog X.w X.K X.mg CX x k ps sp) (hr:Room k X.A) (hg:Gl X x) (hx:Passes CX X E)
    (ha:PA X (e::es) t) (hdb:(x==("__debug__" : Str))=false:=by decide) (he:starEach (e::es) X.env=(false,eval e X.env)::starEach es X.env:=by rfl) (hpl:(backTo pos (starEach es X.env)).any (·.1)=false:=by rfl) (hc:X.calm=true:=by rfl) (hbs:X.base=base:=by rfl) :
    PE X (.Call (.Name x p) (e::es) [] pos) (tCallU base sp E t):=by
  subst hbs
  obtain ⟨f,fd,F,m,kp,b⟩:=F
  intro pins s σ H Q I h
  refine wpAny_Call_Name_kw (ld_glob I hg m ?_ hdb)
  refine PySem.W.callWith_K (h₀:=X.base) I.ok.mod.kin kp (thn (ha pos pins s σ H _ I h) fun us s1 ⟨vs,H1,I1,r,q⟩=>⟨I1.kIn,?_⟩) he hpl
  have q:=q _ (baseUp I1).old
  have hl:us.length=ps.length:=by rw [← r.length]; exact (F (hidX s1.heap H1 (frs X.stack))).len _ _ _ _ q
  have bt:=b s1 us I1.kIn (by rw [List.append_nil]; exact hl)
  rw [List.append_nil] at bt
  refine wpAny_call (codeAny_mono ((F _).run X.A X.stack s1 H1 ⟨us,[]⟩ us vs Q E hr (env1 I1 hc) bt r q) fun r' s' hq=>?_)
  cases r' with
  | error e=>exact hx pins σ H1 s1 e s' I1 hq
  | ok fl =>
    cases fl with
    | ret u=>exact I1.after hq
    | next=>exact False.elim hq
    | brk=>exact False.elim hq
    | cont=>exact False.elim hq
end L3
namespace L3
open PySem PySem.Spec PyProof.Rows L2 KM
theorem DfN.okX {P:Program} {w:World} {K:PySem.W.Frag} {mg:Str→Option Value} {x:Str} {st:Stmt} {N ps:List Str} {k:Nat} {sp:Sp} {T:Addr} (D:DfN K mg x st ps T) (S:FnScope N ps (defScope st)) (len:∀ vs H Q E,sp vs H Q E→vs.length=ps.length)
    (hbody:∀ (base:Heap) (f cc:Addr) (A:Around) (outer:List Env) (s:Shared) (H:Hp) (vs:List V) (Q:VK) (E:XK),NestK K cc T→Room k (A.deeper (envOfC x (defScope st) s.heap.objs.size f (.ref cc)))→sp vs H Q E →
      ∃ t,PSs (cxOf (CXo P w) P w K mg base N x (defScope st) f (.ref cc) A outer s H E) (defBody st) t∧t { nx:=fun _ H'=>Q .non H',rt:=Q } (start N vs) H):Cal P w K mg (CXo P w) x (k+1) ps sp:=by
  obtain ⟨f,fd,F,m,b,n⟩:=D
  refine ⟨f,fd,fun base=>?_,m,F.kp,b⟩
  obtain ⟨oc,od,kV,doc,pm,an,cdv,ct,osl,rfl,lk,hcd⟩:=F.ex
  obtain ⟨oc',od',fd',osl',cc,lk',hc,nk⟩:=n
  rw [lk] at lk'
  cases lk'
  have hc:cdv=.ref cc:=hc
  subst hc
  exact fn_of lk hcd S len fun A outer s H vs Q E hr hsp=>hbody base f cc A outer s H vs Q E nk hr hsp
end L3
namespace L3
open PySem PySem.Spec PyProof.Rows L2 KM
theorem pn_ok' {X : Cx} {f : Addr} {fo : Obj} (hf : ∀ vs, fo.data ≠ .fields vs) (ok : (pnCx X f fo).Ok) : X.Ok :=
  ⟨ok.mod,ok.kind,ok.glob,ok.blt,ok.above,ok.inj,ok.has,ok.cab,fun h=>by
    rcases ok.hd h with h | ⟨a,oe,vs,e1,e2,e3⟩
    · exact .inl h
    · refine .inr ⟨a,oe,vs,e1,?_,e3⟩
      rcases e2 with e2 | e2
      · exact .inl e2
      · rcases List.mem_cons.mp e2 with z | z
        · cases z
          exact absurd e3.1 (hf vs)
        · exact .inr z,ok.frames,ok.stk,ok.exf,ok.bs,ok.bsz,ok.noex,ok.exfs,ok.funs,ok.frf⟩
theorem passes_pn {CX:CXT} {X:Cx} {f:Addr} {fo:Obj} {E:XK} (h:Passes CX X E) (hf:∀ vs,fo.data≠.fields vs):Passes CX (pnCx X f fo) E:=fun pins σ H s e s' I hc=>h pins σ H s e s' (pn_out (pn_ok' hf I.ok) I) hc
end L3
end
section
set_option maxHeartbeats 1000000
namespace K27
open PySem L2 L3 KM PyProof.Rows
seal L2.PE L2.PS L2.PSs L2.PT L2.PW L2.PA L2.PG L2.PGs L2.PI L2.PC L2.PO L2.PPs L2.PK L3.PIf L3.PH L3.PB
variable {P:Program} {w:World} {K:PySem.W.Frag} {mg:Str→Option Value} {base:Heap} {t:Adr}
def spChange (g:Int→Int→D) (Pre:Hp→Prop):Sp:=fun vs H Q _=>∃ n b:Int,vs=[.int n,.int b]∧0≤n∧0≤b∧Pre H∧∀ (v:V) (H':Hp),Same H H'→Rep H' (g n b) v→Q v H'
structure Chg (P:Program) (w:World) (K:PySem.W.Frag) (mg:Str→Option Value) (base:Heap) (kc:Nat) (f:Addr) (g:Int→Int→D) (Pre:Hp→Prop):Prop where
  cal:CloCal P w K mg base kc f (spChange g Pre)
  st:∀ H H',Pre H→Same H H'→Pre H'
def bdI (x:Str) (i:Nat):Int:=if decide (V.int i=overV x)=true then 1 else 0
theorem bdI_nn (x:Str) (i:Nat):0≤bdI x i:=by unfold bdI; split <;> decide
theorem bind_bd (x:Str) (i:Nat):bindV x i=.int (bdI x i):=by unfold bindV bdI; split <;> rfl
def wfD (g:Int→Int→D):Nat→Int→D→D
  | n + 1, b, .tup (.str x :: ps) => if x = "var" then (match ps with
      | [.int i]=>if b≤i then g (i-b) b else .tup (.str x::ps)
      | _=>.tup (.str x::ps)) else rebuiltD x ps ((List.range (kidsD x ps).length).map fun i=>wfD g n (b+bdI x i) (((kidsD x ps)[i]?).getD .non))
  | _,_,d=>d
def spWf (P:Program) (w:World) (K:PySem.W.Frag) (mg:Str→Option Value) (kc n:Nat) (base:Heap):Sp:=fun vs H Q _=>∃ (d:D) (v:V) (b:Int) (f:Addr) (g:Int→Int→D) (Pre:Hp→Prop),vs=[v,.int b,.ref f]∧Rep H d v∧Wf d∧depth d<n∧0≤b∧Pre H∧Chg P w K mg base kc f g Pre ∧
  ∀ (u:V) (H':Hp),Same H H'→Rep H' (wfD g n b d) u→Q u H'
theorem sc_with_free:FnScope ["thing", "binders", "change", "kids"] ["thing", "binders", "change"] (defScope s_with_free):=⟨rfl,rfl,rfl,by decide +kernel,rfl,by decide +kernel,by decide +kernel⟩
theorem st_with_free {kc n:Nat} (D:Df K mg "with_free" s_with_free ["thing", "binders", "change"]) (M:Mg mg t) (F_kids_of:Cal P w K mg CX0 "kids_of" (1) ["thing"] spKids) (F_binds_of:Cal P w K mg CX0 "binds_of" (1) ["thing"] spBinds) (F_rebuilt:Cal P w K mg CX0 "rebuilt" (1) ["thing", "kids"] spRebuilt) (F_with_free:CalB P w K mg CX0 "with_free" (n+kc+3) ["thing", "binders", "change"] (spWf P w K mg kc n)):CalB P w K mg CX0 "with_free" (n+kc+4) ["thing", "binders", "change"] (spWf P w K mg kc (n+1)):=by
  refine D.okB sc_with_free (fun base vs H Q E h=>?_) (fun base f cdv A outer s H vs Q E hr h=>?_)
  · obtain ⟨d,v,b,fc,g,Pre,rfl,_⟩:=h
    rfl
  obtain ⟨d,v,b,fc,g,Pre,rfl,r,wfd,hd,hb,hp,C,q⟩:=h
  have hC:=C.cal
  obtain ⟨x,ps,k,rfl,wf,hps⟩:=wf_ps wfd
  have hk4:=kids4 wf
  obtain ⟨a,us0,rfl,ha,v0,us0,rfl,⟨rfl,hx⟩,rp⟩:=id r
  have ea:atI (V.str x::us0) 0=some (.str x):=atI_nat (j:=0) rfl
  refine ⟨_,(pss_cons (ps_if (pt_cmpR op_eq (pe_ix ix_tup (pv 0) pe_int (fun _ _=>rfl)) pe_str (nomark _)) (pss_one (ps_ret (pe_ifExp (pt_cmpR op_ge (pe_ix ix_tup (pv 0) pe_int (fun _ _=>rfl)) (pv 1) (nomark _)) (pe_callv (i:=2) hC (hr.mono (by omega)) rfl (by first | exact Or.inl rfl | exact Or.inr (Or.inl rfl) | exact Or.inr (Or.inr rfl)) (pa_cons (pe_op op_sub (pe_ix ix_tup (pv 0) pe_int (fun _ _=>rfl)) (pv 1)) (pa_cons (pv 1) pa_nil))) (pv 0)))) pss_nil)
      (pss_cons (ps_setC (ix:=3) (N':=["kid", "bound", "change", "binders"]) (own:=2) (fr:=[2,1]) sc_with_free.nd rfl rfl rfl (blk_of (N:=["thing", "binders", "change", "kids"]) (sc:=defScope s_with_free) rfl rfl rfl (by decide +kernel)) (pi_zipL rfl M.n_zip (pa_cons (pe_fn F_kids_of (hr.mono (by omega)) rfl pass0 (pa_cons (pv 0) pa_nil)) (pa_cons (pe_fn F_binds_of (hr.mono (by omega)) rfl pass0 (pa_cons (pv 0) pa_nil)) pa_nil))) (own_pair (n:=2) (by decide) (by decide)) (fun _ _ _=>(pg_tup (n:=2) rfl (pgs_cons (pg_name (i:=0) (show List.Nodup (["kid", "bound", "change", "binders"]:List Str) by decide +kernel) rfl (Or.inl rfl)) (pgs_cons (pg_name (i:=1) (show List.Nodup (["kid", "bound", "change", "binders"]:List Str) by decide +kernel) rfl (Or.inl rfl)) pgs_nil)))) (fun _ _ _=>pif_nil) (fun _ _ _=>(pe_fnU (base:=base) F_with_free (hr.mono (by omega)) rfl pass0 (pa_cons (pv 0) (pa_cons (pe_op op_add (pv 3) (pv 1)) (pa_cons (pv 2) pa_nil))))))
      (pss_one (ps_ret (pe_fn F_rebuilt (hr.mono (by omega)) rfl pass0 (pa_cons (pv 0) (pa_cons (pv 3) pa_nil))))))),?_⟩
  try dsimp only [cxK,cxK2]
  refine let3 ?_
  intro _ _ _
  refine ⟨_,rfl,a,_,_,_,rfl,rfl,SqT.of ha,ea,rfl,_,rfl,?_⟩
  refine ite2 (fun c=>?_) (fun c=>?_)
  · have c:V.str x=V.str "var" := of_decide_eq_true c
    cases c
    obtain ⟨sh,e1,_,e3,_,e5,_⟩:=wf_shape wf
    rw [shape_var] at e1
    cases e1
    rw [len_n] at e3 e5
    obtain ⟨p0,rfl⟩:∃ p0,ps=[p0]:=by
      cases ps with
      | nil=>simp at e5
      | cons p0 rest=>cases rest with
        | nil=>exact ⟨p0,rfl⟩
        | cons _ _=>simp at e5
    rw [wfL_cons,Bool.and_eq_true] at e3
    have hn:numD p0=true:=by simpa [dueB] using e3.1
    obtain ⟨i,rfl⟩:∃ i,p0=.int i:=by cases p0 <;> first | exact ⟨_,rfl⟩ | simp [numD] at hn
    obtain ⟨u1,us1,rfl,r1,_⟩:=rp
    cases (show u1=V.int i from r1)
    have h0:0≤i:=by simpa [numD] using hn
    have e:wfD g (n+1) b (.tup [.str "var",.int i])=if b≤i then g (i-b) b else .tup [.str "var",.int i]:=by rw [wfD,if_pos rfl]
    rw [e] at q
    refine ⟨_,rfl,a,_,_,.int i,rfl,rfl,SqT.of ha,atI_nat (j:=1) rfl,_,rfl,_,_,rfl,rfl,_,rfl,?_⟩
    refine ite2 (fun c=>?_) (fun c=>?_)
    · have c:b≤i:=of_decide_eq_true c
      rw [if_pos c] at q
      exact ⟨rfl,_,rfl,a,_,_,.int i,rfl,rfl,SqT.of ha,atI_nat (j:=1) rfl,_,rfl,_,_,rfl,rfl,_,rfl,i-b,b,rfl,by omega,hb,hp,q⟩
    · have c:¬ b≤i:=of_decide_eq_false (Bool.eq_false_iff.mpr c)
      rw [if_neg c] at q
      exact ⟨_,rfl,q _ H (Same.refl H) r⟩
  have hv:x ≠ "var" := fun z=>c (by rw [z]; exact decide_eq_true rfl)
  have e:wfD g (n+1) b (.tup (.str x::ps))=rebuiltD x ps ((List.range (kidsD x ps).length).map fun i=>wfD g n (b+bdI x i) (((kidsD x ps)[i]?).getD .non)):=by
    conv=>lhs; unfold wfD
    exact if_neg hv
  rw [e] at q
  refine ⟨_,rfl,x,ps,_,rfl,r,hps,fun p1 us H1 _ s1 h1 r1=>⟨_,rfl,x,ps,_,k,rfl,r.mono s1,wf,fun p2 H2 s2 h2=>⟨p1,p2,us,_,rfl,SqL.of (s2 _ _ h1),SqL.of h2,fun p3 hp3=>?_⟩⟩⟩
  have l1:=r1.length
  have s12:=s1.trans s2
  have h1':=s2 _ _ h1
  refine comp_reps (kidsD x ps).length (fun i=>wfD g n (b+bdI x i) (((kidsD x ps)[i]?).getD .non)) hp3 (Nat.le_trans hk4 (by decide)) (fun i H3 hi s3=>?_) fun acc H3 s3 h3 r3=>⟨⟨us,_,SqL.of (s3 _ _ h1'),SqL.of (s3 _ _ h2),by omega⟩,?_⟩
  · obtain ⟨di,hdi⟩:∃ di,(kidsD x ps)[i]?=some di:=⟨_,List.getElem?_eq_getElem hi⟩
    obtain ⟨ui,hui,rui⟩:=r1.get hdi
    have hbi:(bindsV x (kidsD x ps).length)[i]?=some (.int (bdI x i)):=by
      unfold bindsV
      rw [List.getElem?_map,List.getElem?_range hi]
      show some (bindV x i)=_
      rw [bind_bd]
    refine ⟨⟨us,_,ui,_,SqL.of (s3 _ _ h1'),SqL.of (s3 _ _ h2),hui,hbi⟩,?_⟩
    rintro y H4 ⟨p,x',y',rfl,hpn,rfl,hy⟩ R hR
    obtain ⟨y1,y2⟩:=hy us _ (SqL.of (s3 _ _ h1')) (SqL.of (s3 _ _ h2))
    rw [hui] at y1
    rw [hbi] at y2
    cases y1
    cases y2
    have s4:=same_new hpn (.tup [ui,.int (bdI x i)])
    obtain ⟨w1,w2⟩:=wf_kid wf hdi
    rw [hdi] at hR
    have sa:=s12.trans (s3.trans s4)
    refine ⟨p,_,rfl,SqT.of upd_same,rfl,_,_,rfl,_,_,rfl,rfl,?_⟩
    exact ⟨_,rfl,_,rfl,_,rfl,_,_,rfl,rfl,_,rfl,fun b' up=>⟨di,ui,b+bdI x i,fc,g,Pre,rfl,rui.mono (s2.trans (s3.trans s4)),w1,by omega,by have:=bdI_nn x i; omega,C.st _ _ hp sa,⟨hC.up up,C.st⟩,fun u H5 s5 r5=>hR u H5 (s4.trans s5) r5⟩⟩
  · refine ⟨_,rfl,_,rfl,x,ps,_,_,p3,acc,rfl,r.mono (s12.trans s3),h3,r3,by rw [List.length_map,List.length_range]; omega,fun u H4 s4 r4=>q u H4 (s12.trans (s3.trans s4)) r4⟩
theorem c_with_free {kc:Nat} (D:Df K mg "with_free" s_with_free ["thing", "binders", "change"]) (M:Mg mg t) (F_kids_of:Cal P w K mg CX0 "kids_of" (1) ["thing"] spKids) (F_binds_of:Cal P w K mg CX0 "binds_of" (1) ["thing"] spBinds) (F_rebuilt:Cal P w K mg CX0 "rebuilt" (1) ["thing", "kids"] spRebuilt):∀ n:Nat,CalB P w K mg CX0 "with_free" (n+kc+3) ["thing", "binders", "change"] (spWf P w K mg kc n)
  | 0=>CalB.never D fun base vs H Q E ⟨d,v,b,f,g,Pre,_,_,_,h,_⟩=>absurd h (Nat.not_lt_zero _)
  | n+1=>by
    have:=st_with_free (kc:=kc) D M F_kids_of F_binds_of F_rebuilt (c_with_free D M F_kids_of F_binds_of F_rebuilt n)
    rwa [show n+1+kc+3=n+kc+4 by omega]
end K27
end
section
set_option maxHeartbeats 1000000
namespace K27
open PySem L2 L3 KM PyProof.Rows
seal L2.PE L2.PS L2.PSs L2.PT L2.PW L2.PA L2.PG L2.PGs L2.PI L2.PC L2.PO L2.PPs L2.PK L3.PIf L3.PH L3.PB
variable {P:Program} {w:World} {K:PySem.W.Frag} {mg:Str→Option Value} {base:Heap} {t:Adr}
abbrev s_raised_change:Stmt:=(defBody s_raised).getD 0 (.Pass ⟨0,0,0,0⟩)
theorem sc_raised_change:CloScope ["number", "binders"] ["low", "by"] (defScope s_raised_change):=cloScope_of rfl rfl rfl (by decide +kernel)
def chgD (by_ low:Int) (n b:Int):D:=.tup [.str "var",.int (n+b+(if low≤n then by_ else 0))]
def tabQ:Str := "raised.<locals>.change"
def tabP:Pos:=defPos s_raised_change
def spRaised (T:Addr) (n:Nat):Sp:=fun vs H Q _=>∃ (d:D) (v:V) (by_ low:Int),vs=[v,.int by_,.int low]∧Rep H d v∧Wf d∧depth d<n∧TabOk H T tabQ tabP∧∀ (u:V) (H':Hp),Same H H'→Rep H' (wfD (chgD by_ low) n 0 d) u→Q u H'
theorem sc_raised:FnScope ["thing", "by", "low", "change"] ["thing", "by", "low"] (defScope s_raised):=⟨rfl,rfl,rfl,by decide +kernel,rfl,by decide +kernel,by decide +kernel⟩
theorem c_raised {n:Nat} {T:Addr} (D:DfN K mg "raised" s_raised ["thing", "by", "low"] T) (M:Mg mg t) (F_with_free:CalB P w K mg CX0 "with_free" (n+1+3) ["thing", "binders", "change"] (spWf P w K mg 1 n)):Cal P w K mg CX0 "raised" (n+5) ["thing", "by", "low"] (spRaised T n):=by
  refine D.ok sc_raised (fun vs H Q E h=>?_) (fun base f cc A outer s H vs Q E nk hr h=>?_)
  · obtain ⟨d,v,by_,low,rfl,_⟩:=h
    rfl
  obtain ⟨d,v,by_,low,rfl,r,wfd,hd,hT,q⟩:=h
  refine ⟨_,(pss_def (i:=3) (qual:=tabQ) nk rfl sc_raised.nd rfl rfl rfl rfl (fun fc c doc pm ct=>(pss_one (ps_ret (pe_fnB F_with_free (hr.mono (by omega)) rfl pass0 (pa_cons (pv 0) (pa_cons pe_int (pa_cons (pv 3) pa_nil)))))))),?_⟩
  try dsimp only [cxK,cxK2]
  refine ⟨hT,fun fc c doc pm ct H1 s1 hc=>?_⟩
  refine ⟨v,rfl,_,rfl,fun b' B=>?_⟩
  refine ⟨d,v,0,fc,chgD by_ low,fun H'=>H' c=some (CodeIs tabQ),rfl,r.mono s1,wfd,hd,Int.le_refl 0,hc,⟨?_,fun H1 H2 h s=>s _ _ h⟩,fun u H2 s2 r2=>q u H2 (s1.trans s2) r2⟩
  have C:=clo_at (cs:=["low", "by"]) (ws:=[.int low,.int by_]) B rfl (by simp) rfl fun i x e=>by
    match i,e with
    | 0,e=>cases e; exact ⟨2,_,rfl,rfl,rfl,rfl,rfl,rfl⟩
    | 1,e=>cases e; exact ⟨1,_,rfl,rfl,rfl,rfl,rfl,rfl⟩
    | i+2,e=>simp at e
  refine clo_cal (k:=0) sc_raised_change C (fun us hl=>match us,hl with | [_,_],_=>rfl) (fun vs H Q ⟨n,b,e,_,_,h,_⟩=>⟨by rw [e]; rfl,h⟩) fun base' A outer s H vs Q hr h=>?_
  obtain ⟨n,b,rfl,h0,hb,_,q⟩:=h
  refine ⟨_,(pss_one (ps_ret (pe_tup (pa_cons pe_str (pa_cons (pe_op op_add (pe_op op_add (pv 0) (pv 1)) (pe_ifExp (pt_cmpR op_ge (pv 0) (pv 2) (nomark _)) (pv 3) pe_int)) pa_nil))))),?_⟩
  refine ⟨_,rfl,_,rfl,_,_,rfl,rfl,_,rfl,_,rfl,_,_,rfl,rfl,_,rfl,?_⟩
  have fin:∀ z:Int,z=(if low≤n then by_ else 0)→∀ p,H p=none→Q (.ref p) (upd H p (.tup [.str "var",.int (n+b+z)])):=fun z hz p hp=>by
    refine q _ _ (same_new hp _) ?_
    rw [hz]
    exact rep_new hp (rs rw_ (rs ri r0))
  refine ite2 (fun c=>?_) (fun c=>?_)
  · have c:low≤n:=of_decide_eq_true c
    exact ⟨_,rfl,_,_,rfl,rfl,(by show 2≤sizeLine; decide),fin by_ (by rw [if_pos c])⟩
  · have c:¬ low≤n:=of_decide_eq_false (Bool.eq_false_iff.mpr c)
    exact ⟨_,_,rfl,rfl,(by show 2≤sizeLine; decide),fin 0 (by rw [if_neg c])⟩
theorem kids_map {x:Str} {ps:List D} {k:Bool} (wf:wfG isStrD k (.tup (.str x::ps))=true) (f:Nat→D) (hk:∀ (i:Nat) (p:D) (c:Nat),(kidsD x ps)[i]?=some p→dueB isStrD c p=true→(c=107∨c=116)→dueB isStrD c (f i)=true) :
    wfG isStrD k (rebuiltD x ps ((List.range (kidsD x ps).length).map f))=true:=by
  unfold rebuiltD
  by_cases hq:(List.range (kidsD x ps).length).map f=[]
  · rw [if_pos hq]; exact wf
  rw [if_neg hq]
  obtain ⟨sh,h1,h2,h3,h4,h5,h6,h7,_⟩:=wf_shape wf
  have nl:leafW x=false:=by
    cases e:leafW x with
    | false=>rfl
    | true=>exact absurd (by unfold kidsD; rw [if_pos e]; rfl) hq
  have ek:kidsD x ps=ps:=by unfold kidsD; rw [nl]; rfl
  refine wfG_mk h1 h2 ?_
  rw [ek] at hk ⊢
  have key:∀ (cs:List Nat) (qs:List D) (j:Nat),wfL isStrD cs qs=true→(∀ c∈cs,c=107∨c=116)→(∀ (i:Nat) (p:D) (c:Nat),qs[i]?=some p→dueB isStrD c p=true→(c=107∨c=116)→dueB isStrD c (f (j+i))=true)→wfL isStrD cs ((List.range' j qs.length).map f)=true:=fun cs=>by
    induction cs with
    | nil =>
      intro qs j h _ _
      cases qs with
      | nil=>exact h
      | cons _ _=>simp [wfL] at h
    | cons c cs ih =>
      intro qs j h hc hf
      cases qs with
      | nil=>simp [wfL] at h
      | cons q qs =>
        rw [wfL_cons,Bool.and_eq_true] at h
        rw [List.length_cons,List.range'_succ,List.map_cons,wfL_cons,Bool.and_eq_true]
        refine ⟨by have:=hf 0 q c rfl h.1 (hc c List.mem_cons_self); rwa [Nat.add_zero] at this,ih qs (j+1) h.2 (fun c h=>hc c (List.mem_cons_of_mem _ h)) fun i p c' e1 e2 e3=>?_⟩
        have:=hf (i+1) p c' (by simpa using e1) e2 e3
        rwa [show j+1+i=j+(i+1) by omega]
  have:=key sh.cps.toList ps 0 h3 (fun c hc=>h7 nl c hc) fun i p c e1 e2 e3=>by rw [Nat.zero_add]; exact hk i p c e1 e2 e3
  rwa [← List.range_eq_range'] at this
theorem reb_size {x:Str} {ps:List D} {k:Bool} (wf:wfG isStrD k (.tup (.str x::ps))=true) (f:Nat→D) (hk:∀ (i:Nat) (p:D),(kidsD x ps)[i]?=some p→knots (f i)=knots p∧depth (f i)=depth p) :
    knots (rebuiltD x ps ((List.range (kidsD x ps).length).map f))=knots (.tup (.str x::ps))∧depth (rebuiltD x ps ((List.range (kidsD x ps).length).map f))=depth (.tup (.str x::ps)):=by
  unfold rebuiltD
  by_cases hq:(List.range (kidsD x ps).length).map f=[]
  · rw [if_pos hq]; exact ⟨rfl,rfl⟩
  rw [if_neg hq]
  have nl:leafW x=false:=by
    cases e:leafW x with
    | false=>rfl
    | true=>exact absurd (by unfold kidsD; rw [if_pos e]; rfl) hq
  have ek:kidsD x ps=ps:=by unfold kidsD; rw [nl]; rfl
  rw [ek] at hk ⊢
  have key:∀ (qs:List D) (j:Nat),(∀ (i:Nat) (p:D),qs[i]?=some p→knots (f (j+i))=knots p∧depth (f (j+i))=depth p)→knotsL ((List.range' j qs.length).map f)=knotsL qs∧depthL ((List.range' j qs.length).map f)=depthL qs:=fun qs=>by
    induction qs with
    | nil=>intro _ _; exact ⟨rfl,rfl⟩
    | cons q qs ih =>
      intro j h
      obtain ⟨a1,a2⟩:=ih (j+1) fun i p e=>by have:=h (i+1) p (by simpa using e); rwa [show j+1+i=j+(i+1) by omega]
      obtain ⟨b1,b2⟩:=h 0 q rfl
      rw [Nat.add_zero] at b1 b2
      rw [List.length_cons,List.range'_succ,List.map_cons,knotsL,depthL,knotsL,depthL,a1,a2,b1,b2]
      exact ⟨rfl,rfl⟩
  have:=key ps 0 fun i p e=>by rw [Nat.zero_add]; exact hk i p e
  rw [← List.range_eq_range'] at this
  simp only [knots,knotsL,depth,depthL]
  rw [this.1,this.2]
  exact ⟨rfl,rfl⟩
theorem wf_varD {k:Bool} {ps:List D} (wf:wfG isStrD k (.tup (.str "var" :: ps))=true):∃ i:Int,ps=[.int i]∧0≤i∧k=false:=by
  obtain ⟨sh,e1,e2,e3,_,e5,_⟩:=wf_shape wf
  rw [shape_var] at e1
  cases e1
  rw [len_n] at e3 e5
  obtain ⟨p0,rfl⟩:∃ p0,ps=[p0]:=by
    cases ps with
    | nil=>simp at e5
    | cons p0 rest=>cases rest with
      | nil=>exact ⟨p0,rfl⟩
      | cons _ _=>simp at e5
  rw [wfL_cons,Bool.and_eq_true] at e3
  have hn:numD p0=true:=by simpa [dueB] using e3.1
  obtain ⟨i,rfl⟩:∃ i,p0=.int i:=by cases p0 <;> first | exact ⟨_,rfl⟩ | simp [numD] at hn
  exact ⟨i,rfl,by simpa [numD] using hn,by rw [← e2]; exact kind_var⟩
theorem wf_varA {z:Int} (h:0≤z):wfG isStrD false (.tup [.str "var",.int z])=true:=by
  refine wfG_mk shape_var kind_var ?_
  rw [len_n,wfL_cons]
  simp [dueB,numD,h,wfL]
theorem due_wf {c:Nat} {p:D} (h:dueB isStrD c p=true) (hc:c=107∨c=116):∃ k,wfG isStrD k p=true∧∀ q,wfG isStrD k q=true→dueB isStrD c q=true:=by
  rcases hc with rfl | rfl
  · exact ⟨true,h,fun q hq=>hq⟩
  · exact ⟨false,h,fun q hq=>hq⟩
theorem wfD_keeps {by_ low : Int} (hby : 0 ≤ by_) : ∀ (n : Nat) (b : Int) (d : D) (k : Bool), 0 ≤ b → depth d < n → wfG isStrD k d = true → wfG isStrD k (wfD (chgD by_ low) n b d) = true ∧ knots (wfD (chgD by_ low) n b d) = knots d ∧ depth (wfD (chgD by_ low) n b d) = depth d
  | 0,_,_,_,_,h,_=>absurd h (Nat.not_lt_zero _)
  | n + 1, b, d, k, hb, hd, wf => by
    obtain ⟨x,ps,rfl⟩:=wf_form wf
    by_cases hv:x = "var"
    · subst hv
      obtain ⟨i,rfl,hi,rfl⟩:=wf_varD wf
      have e:wfD (chgD by_ low) (n+1) b (.tup [.str "var",.int i])=if b≤i then chgD by_ low (i-b) b else .tup [.str "var",.int i]:=by rw [wfD,if_pos rfl]
      rw [e]
      split
      · unfold chgD
        refine ⟨wf_varA ?_,by simp [knots,knotsL],by simp [depth,depthL]⟩
        split <;> omega
      · exact ⟨wf,rfl,rfl⟩
    · have e:wfD (chgD by_ low) (n+1) b (.tup (.str x::ps))=rebuiltD x ps ((List.range (kidsD x ps).length).map fun i=>wfD (chgD by_ low) n (b+bdI x i) (((kidsD x ps)[i]?).getD .non)):=by
        conv=>lhs; unfold wfD
        exact if_neg hv
      rw [e]
      refine ⟨kids_map wf _ fun i p c e1 e2 e3=>?_,reb_size wf _ fun i p e1=>?_⟩
      · obtain ⟨w1,w2⟩:=wf_kid wf e1
        obtain ⟨k',h1,h2⟩:=due_wf e2 e3
        rw [e1]
        exact h2 _ (wfD_keeps hby n (b+bdI x i) p k' (by have:=bdI_nn x i; omega) (by omega) h1).1
      · obtain ⟨⟨k',w1⟩,w2⟩:=wf_kid wf e1
        rw [e1]
        exact (wfD_keeps hby n (b+bdI x i) p k' (by have:=bdI_nn x i; omega) (by omega) w1).2
def movD (by_:Int):Nat→Int→D→D
  | n + 1, low, .tup (.str x :: ps) => if x = "var" then (match ps with
      | [.int i]=>.tup [.str "var",.int (i+by_*(if low≤i then 1 else 0))]
      | _=>.tup (.str x::ps)) else rebuiltD x ps ((List.range (kidsD x ps).length).map fun i=>movD by_ n (low+bdI x i) (((kidsD x ps)[i]?).getD .non))
  | _,_,d=>d
theorem mov_eq {by_ low : Int} (hl : 0 ≤ low) : ∀ (n : Nat) (b : Int) (d : D) (k : Bool), 0 ≤ b → depth d < n → wfG isStrD k d = true → wfD (chgD by_ low) n b d = movD by_ n (low + b) d
  | 0,_,_,_,_,h,_=>absurd h (Nat.not_lt_zero _)
  | n + 1, b, d, k, hb, hd, wf => by
    obtain ⟨x,ps,rfl⟩:=wf_form wf
    by_cases hv:x = "var"
    · subst hv
      obtain ⟨i,rfl,hi,rfl⟩:=wf_varD wf
      rw [wfD,if_pos rfl,movD,if_pos rfl]
      by_cases c:b≤i
      · simp only [if_pos c,chgD]
        congr 3
        by_cases c2:low≤i-b
        · rw [if_pos c2,if_pos (by omega)]
          congr 1
          omega
        · rw [if_neg c2,if_neg (by omega)]
          congr 1
          omega
      · simp only [if_neg c]
        rw [if_neg (by omega),Int.mul_zero,Int.add_zero]
    · conv=>lhs; unfold wfD
      conv=>rhs; unfold movD
      rw [if_neg hv,if_neg hv]
      congr 1
      refine List.map_congr_left fun i hi=>?_
      have hi:i<(kidsD x ps).length:=List.mem_range.mp hi
      obtain ⟨di,hdi⟩:∃ di,(kidsD x ps)[i]?=some di:=⟨_,List.getElem?_eq_getElem hi⟩
      obtain ⟨⟨k',w1⟩,w2⟩:=wf_kid wf hdi
      rw [hdi]
      have:=mov_eq (by_:=by_) hl n (b+bdI x i) di k' (by have:=bdI_nn x i; omega) (by omega) w1
      rw [show low+(b+bdI x i)=low+b+bdI x i by omega] at this
      exact this
end K27
end
section
set_option maxHeartbeats 1000000
namespace K27
open PySem L2 L3 KM PyProof.Rows
seal L2.PE L2.PS L2.PSs L2.PT L2.PW L2.PA L2.PG L2.PGs L2.PI L2.PC L2.PO L2.PPs L2.PK L3.PIf L3.PH L3.PB
variable {P:Program} {w:World} {K:PySem.W.Frag} {mg:Str→Option Value} {base:Heap} {t:Adr}
abbrev s_put_in_change:Stmt:=(defBody s_put_in).getD 0 (.Pass ⟨0,0,0,0⟩)
theorem sc_put_in_change:CloScope ["number", "binders"] ["other", "at"] (defScope s_put_in_change):=cloScope_of rfl rfl rfl (by decide +kernel)
def putG (o:D) (at_:Int) (n b:Int):D:=if n=at_ then wfD (chgD b 0) 58 0 o else .tup [.str "var",.int (n+b-(if at_<n then 1 else 0))]
def tabQ2:Str := "put_in.<locals>.change"
def tabP2:Pos:=defPos s_put_in_change
abbrev pinD (o:D) (at_:Int) (d:D):D:=wfD (putG o at_) 58 0 d
abbrev greatD (d:D):Bool:=vastD d || bigD d
structure PiOk (H:Hp) (T1 T2:Addr) (at_:Int) (d o:D) (v u:V):Prop where
  r:Rep H d v
  ro:Rep H o u
  wf:Wf d
  wfo:Wf o
  dp:depth d<58
  dpo:depth o<58
  rz:Rz (pinD o at_ d) 100
  t1:TabOk H T1 tabQ tabP
  t2:TabOk H T2 tabQ2 tabP2
def spPutIn (C T1 T2:Addr):Sp:=fun vs H Q E=>∃ (d o:D) (v u:V) (at_:Int),vs=[v,u,.int at_]∧PiOk H T1 T2 at_ d o v u ∧
  (∀ (z:V) (H':Hp),Same H H'→greatD (pinD o at_ d)=false→Rep H' (pinD o at_ d) z→Q z H')∧(∀ H',Same H H'→greatD (pinD o at_ d)=true→E (.ref C) none H')
theorem sc_put_in:FnScope ["thing", "other", "at", "change"] ["thing", "other", "at"] (defScope s_put_in):=⟨rfl,rfl,rfl,by decide +kernel,rfl,by decide +kernel,by decide +kernel⟩
theorem c_put_in {T1 T2:Addr} (D:DfN K mg "put_in" s_put_in ["thing", "other", "at"] T2) (M:Mg mg t) (F_raised:Cal P w K mg CX0 "raised" (63) ["thing", "by", "low"] (spRaised T1 58)) (F_with_free:CalB P w K mg CX0 "with_free" (58+64+3) ["thing", "binders", "change"] (spWf P w K mg 64 58)) (F_bounded:Cal P w K mg (CXo P w) "bounded" (104) ["thing"] (spBounded t.Great 100)):Cal P w K mg (CXo P w) "put_in" (126) ["thing", "other", "at"] (spPutIn t.Great T1 T2):=by
  refine D.okX sc_put_in (fun vs H Q E h=>?_) (fun base f cc A outer s H vs Q E nk hr h=>?_)
  · obtain ⟨d,o,v,u,at_,rfl,_⟩:=h
    rfl
  obtain ⟨d,o,v,u,at_,rfl,I,q,qe⟩:=h
  refine ⟨_,(pss_def (i:=3) (qual:=tabQ2) nk rfl sc_put_in.nd rfl rfl rfl rfl (fun fc c doc pm ct=>(pss_one (ps_ret (pe_fn F_bounded (hr.mono (by omega)) rfl (passes_pn passes_o (fun _ z=>nomatch z)) (pa_cons (pe_fnB F_with_free (hr.mono (by omega)) rfl pass0 (pa_cons (pv 0) (pa_cons pe_int (pa_cons (pv 3) pa_nil)))) pa_nil)))))),?_⟩
  try dsimp only [cxK,cxK2]
  refine ⟨I.t2,fun fc c doc pm ct H1 s1 hc=>?_⟩
  refine ⟨v,rfl,_,rfl,fun b' B=>?_⟩
  refine ⟨d,v,0,fc,putG o at_,fun H'=>H' c=some (CodeIs tabQ2)∧Rep H' o u∧TabOk H' T1 tabQ tabP,rfl,I.r.mono s1,I.wf,I.dp,Int.le_refl 0,⟨hc,I.ro.mono s1,I.t1.mono s1⟩,⟨?_,fun H1 H2 h s=>⟨s _ _ h.1,h.2.1.mono s,h.2.2.mono s⟩⟩,fun z H2 s2 r2=>?_⟩
  rotate_left
  · exact ⟨_,z,rfl,r2,I.rz,fun H3 s3 hv=>q z H3 (s1.trans (s2.trans s3)) hv (r2.mono s3),fun H3 s3 hv=>qe H3 (s1.trans (s2.trans s3)) hv⟩
  have C:=clo_at (cs:=["other", "at"]) (ws:=[u,.int at_]) B rfl (by simp) rfl fun i x e=>by
    match i,e with
    | 0,e=>cases e; exact ⟨1,_,rfl,rfl,rfl,rfl,rfl,rfl⟩
    | 1,e=>cases e; exact ⟨2,_,rfl,rfl,rfl,rfl,rfl,rfl⟩
    | i+2,e=>simp at e
  refine clo_cal (k:=63) sc_put_in_change C (fun us hl=>match us,hl with | [_,_],_=>rfl) (fun vs H Q ⟨n,b,e,_,_,h,_⟩=>⟨by rw [e]; rfl,h.1⟩) fun base' A outer s H vs Q hr h=>?_
  obtain ⟨n,b,rfl,h0,hb,⟨_,ho,hT⟩,q⟩:=h
  refine ⟨_,(pss_cons (ps_if (pt_cmpR op_eq (pv 0) (pv 3) (nomark _)) (pss_one (ps_ret (pe_fn F_raised (hr.mono (by omega)) rfl pass0 (pa_cons (pv 2) (pa_cons (pv 1) (pa_cons pe_int pa_nil)))))) pss_nil)
      (pss_one (ps_ret (pe_tup (pa_cons pe_str (pa_cons (pe_op op_sub (pe_op op_add (pv 0) (pv 1)) (pe_ifExp (pt_cmpR op_gt (pv 0) (pv 3) (nomark _)) pe_int pe_int)) pa_nil)))))),?_⟩
  unfold putG at q
  refine ⟨_,rfl,_,rfl,rfl,_,rfl,?_⟩
  refine ite2 (fun c=>?_) (fun c=>?_)
  · have c:n=at_:=by
      have:V.int n=V.int at_:=of_decide_eq_true c
      injection this
    rw [if_pos c] at q
    exact ⟨_,rfl,_,rfl,o,u,b,0,rfl,ho,I.wfo,I.dpo,hT,q⟩
  have c:¬ n=at_:=fun z=>c (by rw [z]; exact decide_eq_true rfl)
  rw [if_neg c] at q
  refine ⟨_,rfl,_,rfl,_,_,rfl,rfl,_,rfl,_,rfl,_,_,rfl,rfl,_,rfl,?_⟩
  have fin:∀ z:Int,z=(if at_<n then 1 else 0)→∀ p,H p=none→Q (.ref p) (upd H p (.tup [.str "var",.int (n+b-z)])):=fun z hz p hp=>by
    refine q _ _ (same_new hp _) ?_
    rw [hz]
    exact rep_new hp (rs rw_ (rs ri r0))
  refine ite2 (fun c=>?_) (fun c=>?_)
  · have c:at_<n:=of_decide_eq_true c
    exact ⟨_,_,rfl,rfl,(by show 2≤sizeLine; decide),fin 1 (by rw [if_pos c])⟩
  · have c:¬ at_<n:=of_decide_eq_false (Bool.eq_false_iff.mpr c)
    exact ⟨_,_,rfl,rfl,(by show 2≤sizeLine; decide),fin 0 (by rw [if_neg c])⟩
end K27
end
section
namespace L3
open PySem PySem.Spec PyProof.Rows L2 KM
end L3
end
section
namespace L3
open PySem
end L3
end
section
namespace L3
open PySem PySem.Builtin PySem.Builtin.Str PySem.StrLaws
def brk (c:Nat):Bool:=c==32 || c==10 || c==40 || c==41
end L3
end
section
namespace L3
open PySem PySem.Spec PyProof.Rows L2 KM
section
variable {X:Cx}
variable {e:Expr} {es:List Expr} {te:TE} {st:Stmt} {rest:List Stmt} {t u:TS} {pos:Pos}
end
structure FnOkP (P:Program) (w:World) (K:PySem.W.Frag) (mg:Str→Option Value) (base:Heap) (CX:CXT) (k:Nat) (f:Addr) (fd:FuncData) (ps:List Str) (sp:Sp):Prop where
  len:∀ vs H Q E,sp vs H Q E→vs.length=ps.length
  run:∀ (A:Around) (outer:List Env) (s:Shared) (H:Hp) (args:Args) (us:List Value) (vs:List V) (Q:VK) (E:XK),0<s.toks→Room k A→Env0 P w K mg base A outer s H→BindsTo s fd args (ps.zip us)→Vals vs us→sp vs H Q E →
    codeAny (model P w) A (.call (.ref f) args) (CR CX A.handled outer P w H s Q E) s
section
variable {X:Cx}
end
end L3
end
section
namespace L3
open PySem PySem.Spec PyProof.Rows L2
section
variable {prog:Program} {w:World} {A:Around} {E:Value→Shared→Prop} {s:Shared}
end
end L3
end
section
namespace L3
open PySem PySem.Spec PyProof.Rows L2
theorem noFill_tuple_mul:fillsNumberSlot (.type "tuple") "mul" = pure false :=
  PySem.fillsNumberSlot_seq (id := "tuple.__mul__") (r:=some (.builtin "tuple.__rmul__")) PySem.F.slot_tuple_mul.lookup (by decide +kernel) PySem.F.slot_tuple_rmul.lookup (by decide +kernel)
theorem repeat_tuple:seqRepeat? (.type "tuple")=pure (some (.builtin "tuple.__mul__")):=by
  unfold seqRepeat?
  rw [PySem.seqSlot_of (T := "tuple") (name := "__mul__") (id := "tuple.__mul__") PySem.F.slot_tuple_mul.lookup (by decide +kernel),PySem.seqSlot_of (T := "tuple") (name := "__rmul__") (id := "tuple.__rmul__") PySem.F.slot_tuple_rmul.lookup (by decide +kernel)]
  rfl
theorem int_rmul_tup (a:Int) (t:Tok) (l:Addr) (items:Array Value) (n:Nat) (dd:Option Addr) (sl:Array (Option Value)) :
    Meets (Builtin.«int.__rmul__» ⟨[.int a t, .ref l], []⟩) (fun _ R s => s.heap.get? l = some { cls := .type "tuple", dict := dd, data := .seq items n, slots := sl } ∧ R (.ok (.ret Value.notImplemented)) s) :=
  .of_wp fun prog w A R s h=>by obtain ⟨hp,g,d,tk,os⟩:=s; obtain ⟨hl,h⟩:=h; wp_walk; exact ⟨_,rfl,h⟩
theorem tup_mul1 (l:Addr) (t:Tok) (items:Array Value) (n:Nat) (dd:Option Addr) (sl:Array (Option Value)) :
    Meets (Builtin.«tuple.__mul__» ⟨[.ref l, .int 1 t], []⟩) (fun _ R s => s.heap.get? l = some { cls := .type "tuple", dict := dd, data := .seq items n, slots := sl } ∧ R (.ok (.ret (.ref l))) s) :=
  .of_wp fun prog w A R s h=>by obtain ⟨hp,g,d,tk,os⟩:=s; obtain ⟨hl,h⟩:=h; wp_walk; exact ⟨_,rfl,h⟩
theorem tup_mulN (l:Addr) (k:Int) (t:Tok) (items:Array Value) (n:Nat) (dd:Option Addr) (sl:Array (Option Value)) (h2:¬ (decide (k< -2 ^ 63) || decide (k≥2 ^ 63))=true) (hi:¬ (items.isEmpty || k==1)=true) (hj:¬ (decide (k≤0) || items.isEmpty)=true) (hm:¬ (items.size*k>(2 ^ 63-1) / 8)) (ht:¬ Builtin.Tuple.tupleTooMany (items.size*k)=true) (hz:¬ (List.foldl (fun x1 x2=>x1++x2) #[] (List.replicate k.toNat items)).size>sizeLine) :
    Meets (Builtin.«tuple.__mul__» ⟨[.ref l, .int k t], []⟩) (fun _ R s => s.heap.get? l = some { cls := .type "tuple", dict := dd, data := .seq items n, slots := sl } ∧ R (.ok (.ret (.ref s.heap.objs.size))) { s with heap := s.heap.push { cls := .type "tuple", data := .seq ((List.replicate k.toNat items).foldl (· ++ ·) #[]) } }) :=
  .of_wp fun prog w A R s h=>by
    obtain ⟨hp,g,d,tk,os⟩:=s; obtain ⟨hl,h⟩:=h
    wp_walk
    refine wpAny_ite_false (decide_eq_false h2) ?_
    wp_walk
    refine wpAny_ite_false (decide_eq_false hm) ?_
    wp_walk
    exact ⟨_,rfl,h⟩
def rRepT:R2:=fun x y H Q=>∃ a k xs,x=.ref a∧y=.int ((k:Nat):Int)∧H a=some (.tup xs)∧xs≠[]∧1≤k∧k≤1000∧xs.length≤1000∧∀ p H',Same H H'→H' p=some (.tup (List.replicate k xs).flatten)→Q (.ref p) H'
theorem op_repT {X:Cx}:OpR X (binaryOp .Mult) rRepT:=by
  intro pins s σ H x y v u Q I rx ry h
  obtain ⟨a,k,xs,rfl,rfl,hH,hne,h1,h2,h3,q⟩:=h
  cases rx
  obtain ⟨t,rfl⟩:=ry
  obtain ⟨its,r1,p1,_⟩:=I.tuple (SqT.of hH)
  have hl:its.length=xs.length:=r1.length.symm
  obtain ⟨⟨cls,dd,data,sl⟩,ho,hc,n,hd⟩:=id p1
  simp only at hc hd
  subst hc hd
  have hnew:List.foldl (fun x1 x2=>x1++x2) #[] (List.replicate k its.toArray)=(List.replicate k its).flatten.toArray:=by
    have:=foldl_rep its k []
    rw [List.nil_append] at this
    exact this
  have hlen:(List.replicate k its).flatten.length=k*its.length:=len_rep its k
  have hb:k*its.length≤1000*1000:=Nat.mul_le_mul h2 (by omega)
  refine wpAny_binaryOp_repeat_ref (T := "tuple") (U := "int") (by decide) ⟨_,ho,rfl⟩ (fun s'=>typeIs_int s' _ t) noFill_tuple_mul PySem.F.fills_int_mul PySem.F.slot_int_rmul repeat_tuple PySem.F.slot_int_index.lookup
    (call_meets PySem.F.slot_int_rmul (typeIs_int s _ t) PySem.F.entry_int_rmul (PySem.F.args_int_rmul_2 _ _) (int_rmul_tup _ t a its.toArray n dd sl)
      ⟨ho,rfl,⟨_,ho,rfl⟩,?_⟩)
  by_cases hk:k=1
  · subst hk
    exact call_meets PySem.F.slot_tuple_mul ⟨_,ho,rfl⟩ PySem.F.entry_tuple_mul (PySem.F.args_tuple_mul_2 _ _) (tup_mul1 a t its.toArray n dd sl) ⟨ho,.ref a,H,I,rfl,q a H (Same.refl H) (by rw [hH]; simp)⟩
  · have hie:its.toArray.isEmpty=false:=by
      cases its with
      | nil=>exact absurd (List.length_eq_zero_iff.mp hl.symm) hne
      | cons _ _=>rfl
    have hsz:its.toArray.size=its.length:=List.size_toArray
    have hmul:((its.toArray.size:Nat):Int)*((k:Nat):Int)=((k*its.length:Nat):Int):=by rw [hsz,Nat.mul_comm]; exact (Int.natCast_mul _ _).symm
    refine call_meets PySem.F.slot_tuple_mul ⟨_,ho,rfl⟩ PySem.F.entry_tuple_mul (PySem.F.args_tuple_mul_2 _ _) (tup_mulN a ((k:Nat):Int) t its.toArray n dd sl ?_ ?_ ?_ ?_ ?_ ?_) ⟨ho,?_⟩
    · rw [Bool.or_eq_true,decide_eq_true_eq,decide_eq_true_eq]; omega
    · rw [hie,Bool.false_or,beq_iff_eq]; omega
    · rw [hie,Bool.or_false,decide_eq_true_eq]; omega
    · rw [hmul]; omega
    · unfold Builtin.Tuple.tupleTooMany
      rw [hmul,decide_eq_true_eq,sizeLine_eq]; omega
    · rw [Int.toNat_natCast,hnew,List.size_toArray,hlen,sizeLine_eq]; omega
    · rw [Int.toNat_natCast,hnew]
      refine ⟨.ref s.heap.objs.size,_,I.laid (t':=s.toks) (o:=.tup (List.replicate k xs).flatten) (fun b ob q=>Heap.get?_push_of_some _ q) (Nat.le_refl _) ?_,rfl,q _ _ (same_new (I.hok.fresh (Nat.le_refl _)) _) upd_same⟩
      exact ⟨by rw [len_rep,← hl,sizeLine_eq]; omega,_,r1.rep k,IsTup.new _ _⟩
def rEqNil (K:PySem.W.Frag):R2:=fun x y H Q=>∃ p q xs,x=.ref p∧y=.ref q∧SqL K H p xs∧SqL K H q []∧Q (.bl (decide (xs=[]))) H
theorem op_eqNil {X:Cx} (hu:X.A.units+1<cLine):OpR X (compareOp .Eq) (rEqNil X.K):=by
  intro pins s σ H x y v u Q I rx ry h
  obtain ⟨p,q,xs,rfl,rfl,hx,hy,h⟩:=h
  cases rx
  cases ry
  obtain ⟨its,r1,p1,_⟩:=I.list hx
  obtain ⟨jts,r2,p2,_⟩:=I.list hy
  have l1:=r1.length
  have l2:=r2.length
  have l2:jts.length=0:=l2.symm
  by_cases hs:xs=[]
  · rw [decide_eq_true hs] at h
    subst hs
    refine SeqAt.eq_listAt p1.isList p2.isList (e:=fun _=>true) (by simp; omega) (by omega) (fun j h1 h2=>?_) ⟨.bl true,H,I,?_,h⟩
    · have:j<jts.length:=by simpa using h2
      omega
    · show Value.bool _=Value.bool true
      congr 1
      simp
  · rw [decide_eq_false hs] at h
    have:xs.length≠0:=fun z=>hs (List.length_eq_zero_iff.mp z)
    exact SeqAt.RcAt.lists_lengths p1.isList p2.isList (by simp; omega) (by omega) _ _ _ _ ⟨.bl false,H,I,rfl,h⟩
theorem tup_mul0 (l:Addr) (t:Tok) (items:Array Value) (n:Nat) (dd:Option Addr) (sl:Array (Option Value)) (hi:¬ (items.isEmpty || (0:Int)==1)=true) :
    Meets (Builtin.«tuple.__mul__» ⟨[.ref l, .int 0 t], []⟩) (fun _ R s => s.heap.get? l = some { cls := .type "tuple", dict := dd, data := .seq items n, slots := sl } ∧ R (.ok (.ret (.ref s.heap.objs.size))) { s with heap := s.heap.push { cls := .type "tuple", data := .seq #[] } }) :=
  .of_wp fun prog w A R s h=>by
    obtain ⟨hp,g,d,tk,os⟩:=s; obtain ⟨hl,h⟩:=h
    wp_walk
    refine wpAny_ite_false (decide_eq_false hi) ?_
    wp_walk
    exact ⟨_,rfl,h⟩
def rRepT0:R2:=fun x y H Q=>∃ a k xs,x=.ref a∧y=.int ((k:Nat):Int)∧H a=some (.tup xs)∧xs≠[]∧k≤1000∧xs.length≤1000∧∀ p H',Same H H'→H' p=some (.tup (List.replicate k xs).flatten)→Q (.ref p) H'
theorem op_repT0 {X:Cx}:OpR X (binaryOp .Mult) rRepT0:=by
  intro pins s σ H x y v u Q I rx ry h
  obtain ⟨a,k,xs,rfl,rfl,hH,hne,h2,h3,q⟩:=h
  by_cases h1:1≤k
  · exact op_repT pins s σ H _ _ v u Q I rx ry ⟨a,k,xs,rfl,rfl,hH,hne,h1,h2,h3,q⟩
  have k0:k=0:=by omega
  subst k0
  cases rx
  obtain ⟨t,rfl⟩:=ry
  obtain ⟨its,r1,p1,_⟩:=I.tuple (SqT.of hH)
  have hl:its.length=xs.length:=r1.length.symm
  obtain ⟨⟨cls,dd,data,sl⟩,ho,hc,n,hd⟩:=id p1
  simp only at hc hd
  subst hc hd
  refine wpAny_binaryOp_repeat_ref (T := "tuple") (U := "int") (by decide) ⟨_,ho,rfl⟩ (fun s'=>typeIs_int s' _ t) noFill_tuple_mul PySem.F.fills_int_mul PySem.F.slot_int_rmul repeat_tuple PySem.F.slot_int_index.lookup
    (call_meets PySem.F.slot_int_rmul (typeIs_int s _ t) PySem.F.entry_int_rmul (PySem.F.args_int_rmul_2 _ _) (int_rmul_tup _ t a its.toArray n dd sl)
      ⟨ho,rfl,⟨_,ho,rfl⟩,?_⟩)
  have hie:its.toArray.isEmpty=false:=by
    cases its with
    | nil=>exact absurd (List.length_eq_zero_iff.mp hl.symm) hne
    | cons _ _=>rfl
  refine call_meets PySem.F.slot_tuple_mul ⟨_,ho,rfl⟩ PySem.F.entry_tuple_mul (PySem.F.args_tuple_mul_2 _ _) (tup_mul0 a t its.toArray n dd sl (by rw [hie]; decide)) ⟨ho,?_⟩
  refine ⟨.ref s.heap.objs.size,_,I.laid (t':=s.toks) (o:=.tup []) (fun b ob q=>Heap.get?_push_of_some _ q) (Nat.le_refl _) ?_,rfl,q _ _ (same_new (I.hok.fresh (Nat.le_refl _)) _) upd_same⟩
  exact ⟨by show 0≤sizeLine; decide,[],.nil,IsTup.new _ _⟩
end L3
end
section
set_option maxHeartbeats 4000000
namespace K27
open PySem L2 L3 KM PyProof.Rows
seal L2.PE L2.PS L2.PSs L2.PT L2.PW L2.PA L2.PG L2.PGs L2.PI L2.PC L2.PO L2.PPs L2.PK L3.PIf L3.PH L3.PB
variable {P:Program} {w:World} {K:PySem.W.Frag} {mg:Str→Option Value} {base:Heap} {t:Adr}
abbrev Sp2:=List Nat×Str
def strV:V→Option Str
  | .str y=>some y
  | _=>none
def ruleS (inb:Str→Bool) (d:D):Option Str:=strV (ruleD inb d)
theorem ruleS_cases (inb:Str→Bool) (d:D):(ruleD inb d=.non∧ruleS inb d=none)∨∃ y:Str,ruleD inb d=.str y∧ruleS inb d=some y∧y.length≤1000∧cmpD (.str y)=true:=by
  have st:∀ y:Str,ruleD inb d=.str y→y.length≤1000→cmpD (.str y)=true→(ruleD inb d=.non∧ruleS inb d=none)∨∃ y:Str,ruleD inb d=.str y∧ruleS inb d=some y∧y.length≤1000∧cmpD (.str y)=true:=fun y e h1 h2=>.inr ⟨y,e,by unfold ruleS; rw [e]; rfl,h1,h2⟩
  have nn:ruleD inb d=.non→(ruleD inb d=.non∧ruleS inb d=none)∨∃ y:Str,ruleD inb d=.str y∧ruleS inb d=some y∧y.length≤1000∧cmpD (.str y)=true:=fun e=>.inl ⟨e,by unfold ruleS; rw [e]; rfl⟩
  have cs:ruleD inb d=.non∨∃ y∈(["name", "fun", "like", "first", "second", "zero", "next"]:List Str),ruleD inb d=.str y:=by
    unfold ruleD
    split
    · unfold ruleW nameB
      repeat' split
      all_goals first | exact .inl rfl | exact .inr ⟨_,by decide +kernel,rfl⟩
    · exact .inl rfl
  rcases cs with h | ⟨y,hy,h⟩
  · exact nn h
  · have hb:y.length≤1000∧cmpD (.str y)=true:=by
      simp only [List.mem_cons,List.not_mem_nil,or_false] at hy
      rcases hy with rfl | rfl | rfl | rfl | rfl | rfl | rfl <;> exact ⟨by decide +kernel,by decide +kernel⟩
    exact st y h hb.1 hb.2
def prD (r:Sp2):D:=.tup [plD r.1,.str r.2]
theorem rep_pcons {H:Hp} {i:Nat} {pl:List Nat} {a:Addr} {vs:List V} (h:H a=some (.tup (V.int i::vs))) (r:Reps H (pl.map fun i=>D.int (i:Nat)) vs):Rep H (plD (i::pl)) (.ref a):=⟨a,_,rfl,h,_,_,rfl,rfl,r⟩
mutual
def fstD (inb : Str → Bool) : D → Option Sp2
  | .tup (.str x::ps)=>match ruleS inb (.tup (.str x::ps)) with
    | some y=>some ([],y)
    | none=>if leafW x=true then none else fstL inb 0 ps
  | _=>none
def fstL (inb : Str → Bool) : Nat → List D → Option Sp2
  | _,[]=>none
  | i,d::ds=>match fstD inb d with
    | some r=>some (i::r.1,r.2)
    | none=>fstL inb (i+1) ds
end
theorem fstD_eq (inb:Str→Bool) (x:Str) (ps:List D):fstD inb (.tup (.str x::ps))=match ruleS inb (.tup (.str x::ps)) with | some y=>some ([],y) | none=>fstL inb 0 (kidsD x ps):=by
  rw [fstD]
  cases ruleS inb (.tup (.str x::ps)) with
  | some y=>rfl
  | none =>
    show (if leafW x=true then none else fstL inb 0 ps)=fstL inb 0 (kidsD x ps)
    unfold kidsD
    split
    · rw [fstL]
    · rfl
def FsV (H:Hp):Option Sp2→V→Prop
  | none,u=>u=.non
  | some r,u=>Rep H (prD r) u
mutual
theorem fst_len (inb : Str → Bool) : ∀ (d : D) (r : Sp2), fstD inb d = some r → r.1.length < depth d ∧ r.2.length ≤ 1000
  | .tup (.str x::ps),r,h=>by
    rw [fstD] at h
    rcases ruleS_cases inb (.tup (.str x::ps)) with ⟨_,e⟩ | ⟨y,_,e,hy,_⟩
    · rw [e] at h
      have h:(if leafW x=true then none else fstL inb 0 ps)=some r:=h
      split at h
      · cases h
      · have:=fstL_len inb ps 0 r h
        simp only [depth,depthL]
        omega
    · rw [e] at h
      have h:some (([]:List Nat),y)=some r:=h
      cases h
      exact ⟨by simp only [depth]; show 0<_; omega,hy⟩
  | .tup [],r,h=>by simp [fstD] at h
  | .tup (.non::_),r,h=>by simp [fstD] at h
  | .tup (.bl _::_),r,h=>by simp [fstD] at h
  | .tup (.int _::_),r,h=>by simp [fstD] at h
  | .tup (.tup _::_),r,h=>by simp [fstD] at h
  | .non,r,h=>by simp [fstD] at h
  | .bl _,r,h=>by simp [fstD] at h
  | .int _,r,h=>by simp [fstD] at h
  | .str _,r,h=>by simp [fstD] at h
theorem fstL_len (inb:Str→Bool):∀ (ds:List D) (i:Nat) (r:Sp2),fstL inb i ds=some r→r.1.length≤depthL ds∧r.2.length≤1000
  | [],i,r,h=>by rw [fstL] at h; cases h
  | d :: ds, i, r, h => by
    rw [fstL] at h
    simp only [depthL]
    cases e:fstD inb d with
    | some q =>
      rw [e] at h
      have h:some ((i::q.1,q.2):Sp2)=some r:=h
      cases h
      have:=fst_len inb d q e
      exact ⟨by show q.1.length+1≤_; omega,this.2⟩
    | none =>
      rw [e] at h
      have:=fstL_len inb ds (i+1) r h
      exact ⟨by omega,this.2⟩
end
def spFirst (n:Nat):Sp:=fun vs H Q _=>∃ (d:D) (v:V) (b:Addr) (kvs:List (Key×V)),vs=[v,.ref b]∧Rep H d v∧Rz d n∧n≤100∧H b=some (.dK kvs)∧∀ (u:V) (H':Hp),Same H H'→FsV H' (fstD (inB kvs) d) u→Q u H'
theorem sc_first_step:FnScope ["thing", "book", "rule", "number", "kid", "step"] ["thing", "book"] (defScope s_first_step):=⟨rfl,rfl,rfl,by decide +kernel,rfl,by decide +kernel,by decide +kernel⟩
theorem st_first_step {n:Nat} (D:Df K mg "first_step" s_first_step ["thing", "book"]) (M:Mg mg t) (F_rule_of:Cal P w K mg CX0 "rule_of" (1) ["thing", "book"] spRule) (F_kids_of:Cal P w K mg CX0 "kids_of" (1) ["thing"] spKids) (F_first_step:Cal P w K mg CX0 "first_step" (n+3) ["thing", "book"] (spFirst n)):Cal P w K mg CX0 "first_step" (n+4) ["thing", "book"] (spFirst (n+1)):=by
  refine D.ok sc_first_step (fun vs H Q E h=>?_) (fun base f cdv A outer s H vs Q E hr h=>?_)
  · obtain ⟨d,v,b,kvs,rfl,_⟩:=h
    rfl
  obtain ⟨d,v,b,kvs,rfl,r,rz,hn,hb,q⟩:=h
  obtain ⟨x,ps,k,rfl,wf,hps⟩:=wf_ps rz.wf
  have hk4:=kids4 wf
  refine ⟨_,(pss_cons (ps_set (i:=2) sc_first_step.nd rfl (by first | exact Or.inl rfl | exact Or.inr rfl) (pe_fn F_rule_of (hr.mono (by omega)) rfl pass0 (pa_cons (pv 0) (pa_cons (pv 1) pa_nil))))
      (pss_cons (ps_if (pt_cmpR op_notN (pv 2) pe_non (nomark _)) (pss_one (ps_ret (pe_tup (pa_cons (pe_tup pa_nil) (pa_cons (pv 2) pa_nil))))) pss_nil)
      (pss_cons (ps_for PassesOwn.never rfl (pi_enumL rfl M.n_enumerate (pa_cons (pe_fn F_kids_of (hr.mono (by omega)) rfl pass0 (pa_cons (pv 0) pa_nil)) pa_nil)) (pg_tup (n:=2) rfl (pgs_cons (pg_name (i:=3) sc_first_step.nd rfl (by first | exact Or.inl rfl | exact Or.inr rfl)) (pgs_cons (pg_name (i:=4) sc_first_step.nd rfl (by first | exact Or.inl rfl | exact Or.inr rfl)) pgs_nil))) (pss_cons (ps_set (i:=5) sc_first_step.nd rfl (by first | exact Or.inl rfl | exact Or.inr rfl) (pe_fn F_first_step (hr.mono (by omega)) rfl pass0 (pa_cons (pv 4) (pa_cons (pv 1) pa_nil))))
      (pss_one (ps_if (pt_cmpR op_notN (pv 5) pe_non (nomark _)) (pss_one (ps_ret (pe_tup (pa_cons (pe_op op_catU (pe_tup (pa_cons (pv 3) pa_nil)) (pe_ix ix_tup (pv 5) pe_int (fun _ _=>rfl))) (pa_cons (pe_ix ix_tup (pv 5) pe_int (fun _ _=>rfl)) pa_nil))))) pss_nil))))
      (pss_one (ps_ret pe_non))))),?_⟩
  try dsimp only [cxK,cxK2]
  refine let4 ?_
  intro _ _ _ _
  refine ⟨_,rfl,_,rfl,_,v,b,kvs,rfl,r,rz.wf,hb,fun H1 s1=>?_⟩
  rw [fstD_eq] at q
  rcases ruleS_cases (inB kvs) (.tup (.str x::ps)) with ⟨e1,e2⟩ | ⟨y,e1,e2,hy,_⟩
  · rw [e1]
    rw [e2] at q
    have q:∀ (u:V) (H':Hp),Same H H'→FsV H' (fstL (inB kvs) 0 (kidsD x ps)) u→Q u H':=q
    refine ⟨_,rfl,rfl,_,rfl,ite2 (fun c=>absurd c (by decide)) (fun _=>?_)⟩
    refine ⟨_,rfl,x,ps,v,rfl,r.mono s1,hps,fun p3 us H3 hp3 s3 h3 r3=>?_⟩
    have l3:=r3.length
    have s13:=s1.trans s3
    refine ⟨p3,us,rfl,SqL.of h3,?_⟩
    let Ifr:Nat→L2.St→Hp→Prop:=(fun i σ' H'=>∃ (nv kv sv:Option V),σ'=[some v,some (.ref b),some V.non,nv,kv,sv]∧Same H3 H'∧fstL (inB kvs) 0 (kidsD x ps)=fstL (inB kvs) i ((kidsD x ps).drop i))
    refine for_by us.length Ifr ?_ ?_ ?_
    · exact ⟨none,none,none,rfl,Same.refl _,rfl⟩
    · rintro i σ' H4 hi ⟨nv,kv,sv,rfl,s4,hf⟩
      obtain ⟨di,hdi⟩:∃ di,(kidsD x ps)[i]?=some di:=⟨_,List.getElem?_eq_getElem (by omega)⟩
      obtain ⟨ui,hui,rui⟩:=r3.get hdi
      have rui:=rui.mono s4
      have hb4:H4 b=some (.dK kvs):=s4 _ _ (s13 _ _ hb)
      refine ⟨⟨us,ui,SqL.of (s4 _ _ h3),hui⟩,?_⟩
      rintro x' H4' ⟨p5,y,rfl,hp5,rfl,hy⟩
      have hy:=hy us (SqL.of (s4 _ _ h3))
      rw [hui] at hy
      cases hy
      have s5:=same_new hp5 (.tup [V.int (i:Nat),ui])
      have rzi:=rz.kid hdi
      have hdr:(kidsD x ps).drop i=di::(kidsD x ps).drop (i+1):=by
        have hl:i<(kidsD x ps).length:=by omega
        rw [List.drop_eq_getElem_cons hl]
        rw [List.getElem?_eq_getElem hl] at hdi
        rw [Option.some.inj hdi]
      rw [hdr,fstL] at hf
      refine ⟨p5,_,rfl,SqT.of upd_same,rfl,_,_,rfl,_,_,rfl,rfl,?_⟩
      refine ⟨_,rfl,_,rfl,di,ui,b,kvs,rfl,rui.mono s5,rzi,(by omega),s5 _ _ hb4,fun u6 H6 s6 f6=>?_⟩
      cases ef:fstD (inB kvs) di with
      | none =>
        rw [ef] at f6 hf
        cases (show u6=V.non from f6)
        refine ⟨_,rfl,rfl,_,rfl,ite2 (fun c=>absurd c (by decide)) (fun _=>?_)⟩
        exact ⟨_,_,_,rfl,s4.trans (s5.trans s6),hf⟩
      | some pj =>
        rw [ef] at f6 hf
        have hf:fstL (inB kvs) 0 (kidsD x ps)=some (i::pj.1,pj.2):=hf
        rw [hf] at q
        obtain ⟨hpl,hy2⟩:=fst_len _ _ _ ef
        have hdd:=rzi.dp
        obtain ⟨bq,_,rfl,hbq,⟨v1,_,rfl,r1,⟨v2,_,rfl,⟨rfl,_⟩,rn⟩⟩⟩:=f6
        cases (show _=[] from rn)
        obtain ⟨bb,vs,rfl,hbb,rb⟩:=r1
        have lb:=rb.length
        rw [List.length_map] at lb
        refine ⟨_,rfl,rfl,_,rfl,ite2 (fun _=>?_) (fun c=>absurd rfl c)⟩
        refine ⟨_,rfl,(by show 1≤sizeLine; decide),fun p9 hp9=>?_⟩
        have s9:=same_new hp9 (.tup [V.int (i:Nat)])
        refine ⟨_,rfl,bq,_,_,_,rfl,rfl,SqT.of (s9 _ _ hbq),atI_nat (j:=0) rfl,p9,bb,_,_,rfl,rfl,upd_same,s9 _ _ hbb,?_,fun p8 H8 s8 h8=>?_⟩
        · rw [sizeLine_eq,List.length_singleton]; omega
        have s98:=s9.trans s8
        refine ⟨_,rfl,bq,_,_,_,rfl,rfl,SqT.of (s98 _ _ hbq),atI_nat (j:=1) rfl,(by show 2≤sizeLine; decide),fun p10 hp10=>?_⟩
        have s10:=same_new hp10 (.tup [V.ref p8,.str pj.2])
        exact q _ _ (s13.trans (s4.trans (s5.trans (s6.trans (s98.trans s10))))) ⟨p10,_,rfl,upd_same,⟨_,_,rfl,rep_pcons (s10 _ _ h8) (rb.mono (s98.trans s10)),⟨_,_,rfl,⟨rfl,hy2⟩,rfl⟩⟩⟩
    · rintro σ' H4 ⟨nv,kv,sv,rfl,s4,hf⟩
      refine ⟨⟨us,SqL.of (s4 _ _ h3),rfl⟩,?_⟩
      rw [l3,List.drop_length,fstL] at hf
      rw [hf] at q
      exact q _ _ (s13.trans s4) rfl
  · rw [e1]
    rw [e2] at q
    refine ⟨_,rfl,rfl,_,rfl,ite2 (fun _=>?_) (fun c=>absurd rfl c)⟩
    refine ⟨(by show 0≤sizeLine; decide),fun p0 hp0=>⟨_,rfl,(by show 2≤sizeLine; decide),fun p1 hp1=>?_⟩⟩
    have t0:=same_new hp0 (.tup [])
    have t1:=same_new hp1 (.tup [V.ref p0,.str y])
    exact q _ _ (s1.trans (t0.trans t1)) ⟨p1,_,rfl,upd_same,⟨_,_,rfl,⟨p0,[],rfl,t1 _ _ upd_same,rfl⟩,⟨_,_,rfl,⟨rfl,hy⟩,rfl⟩⟩⟩
theorem c_first_step (D:Df K mg "first_step" s_first_step ["thing", "book"]) (M:Mg mg t) (F_rule_of:Cal P w K mg CX0 "rule_of" (1) ["thing", "book"] spRule) (F_kids_of:Cal P w K mg CX0 "kids_of" (1) ["thing"] spKids):∀ n:Nat,Cal P w K mg CX0 "first_step" (n+3) ["thing", "book"] (spFirst n)
  | 0=>Cal.never D fun vs H Q E ⟨d,v,b,kvs,_,_,h,_⟩=>absurd h.dp (Nat.not_lt_zero _)
  | n+1=>st_first_step D M F_rule_of F_kids_of (c_first_step D M F_rule_of F_kids_of n)
end K27
end
section
set_option maxHeartbeats 1000000
namespace K27
open PySem L2 L3 KM PyProof.Rows
def cntD (at_:Int):Nat→Int→D→Nat
  | n + 1, b, .tup (.str x :: ps) => if x = "var" then (match ps with
      | [.int i]=>if i=at_+b then 1 else 0
      | _=>0) else ((List.range (kidsD x ps).length).map fun i=>cntD at_ n (b+bdI x i) (((kidsD x ps)[i]?).getD .non)).sum
  | _,_,_=>0
def plcD (o:D) (at_:Int):Nat→Int→D→D
  | n + 1, b, .tup (.str x :: ps) => if x = "var" then (match ps with
      | [.int i]=>if i=at_+b then movD b 58 0 o else .tup [.str "var",.int (i-(if at_+b<i then 1 else 0))]
      | _=>.tup (.str x::ps)) else rebuiltD x ps ((List.range (kidsD x ps).length).map fun i=>plcD o at_ n (b+bdI x i) (((kidsD x ps)[i]?).getD .non))
  | _,_,d=>d
theorem reb_knots {x:Str} {ps:List D} {k:Bool} (wf:wfG isStrD k (.tup (.str x::ps))=true) (f:Nat→D) :
    knots (rebuiltD x ps ((List.range (kidsD x ps).length).map f))=1+((List.range (kidsD x ps).length).map fun i=>knots (f i)).sum ∧
    depth (rebuiltD x ps ((List.range (kidsD x ps).length).map f))=1+maxN ((List.range (kidsD x ps).length).map fun i=>depth (f i)):=by
  unfold rebuiltD
  by_cases hq:(List.range (kidsD x ps).length).map f=[]
  · rw [if_pos hq]
    have hl:(kidsD x ps).length=0:=by
      have:=congrArg List.length hq
      rw [List.length_map,List.length_range] at this
      exact this
    obtain ⟨e1,e2⟩:=knots_kids wf
    rw [e1,e2,hl,List.length_eq_zero_iff.mp hl]
    exact ⟨rfl,rfl⟩
  · rw [if_neg hq]
    have e1:knots (.tup (.str x::(List.range (kidsD x ps).length).map f))=1+knotsL ((List.range (kidsD x ps).length).map f):=by simp [knots,knotsL]
    have e2:depth (.tup (.str x::(List.range (kidsD x ps).length).map f))=1+depthL ((List.range (kidsD x ps).length).map f):=by simp [depth,depthL]
    rw [e1,e2,knotsL_sum,depthL_max,List.map_map,List.map_map]
    exact ⟨rfl,rfl⟩
theorem kids_knots {x:Str} {ps:List D} {k:Bool} (wf:wfG isStrD k (.tup (.str x::ps))=true) :
    knots (.tup (.str x::ps))=1+((List.range (kidsD x ps).length).map fun i=>knots (((kidsD x ps)[i]?).getD .non)).sum ∧
    depth (.tup (.str x::ps))=1+maxN ((List.range (kidsD x ps).length).map fun i=>depth (((kidsD x ps)[i]?).getD .non)):=by
  obtain ⟨e1,e2⟩:=knots_kids wf
  rw [e1,e2]
  have key:∀ (l:List D) (g:D→Nat),l.map g=(List.range l.length).map fun i=>g ((l[i]?).getD .non):=fun l g=>by
    refine List.ext_getElem (by simp) fun i h1 h2=>?_
    have hi:i<l.length:=by simpa using h1
    simp [List.getElem?_eq_getElem hi]
  rw [key _ knots,key _ depth]
  exact ⟨rfl,rfl⟩
theorem sum_lin (A B C:Nat→Nat) (m:Nat):∀ l:List Nat,(∀ i∈l,A i+C i=B i+C i*m)→(l.map A).sum+(l.map C).sum=(l.map B).sum+(l.map C).sum*m
  | [],_=>by simp
  | i::l,h=>by
    have a:=sum_lin A B C m l fun j hj=>h j (List.mem_cons_of_mem _ hj)
    have b:=h i List.mem_cons_self
    simp only [List.map_cons,List.sum_cons,Nat.add_mul]
    omega
theorem sum_le2 (A B:Nat→Nat):∀ l:List Nat,(∀ i∈l,A i≤B i)→(l.map A).sum≤(l.map B).sum
  | [],_=>by simp
  | i::l,h=>by
    have a:=sum_le2 A B l fun j hj=>h j (List.mem_cons_of_mem _ hj)
    have b:=h i List.mem_cons_self
    simp only [List.map_cons,List.sum_cons]
    omega
theorem max_le2 (A B:Nat→Nat) (m:Nat):∀ l:List Nat,(∀ i∈l,A i≤B i+m)→maxN (l.map A)≤maxN (l.map B)+m
  | [],_=>by simp [maxN]
  | i::l,h=>by
    have a:=max_le2 A B m l fun j hj=>h j (List.mem_cons_of_mem _ hj)
    have b:=h i List.mem_cons_self
    simp only [List.map_cons,maxN]
    omega
theorem pin_keeps {o:D} {at_:Int} (hat:0≤at_) (wo:wfG isStrD false o=true) (ho:depth o<58):∀ (n:Nat) (b:Int) (d:D) (k:Bool),0≤b→depth d<n→wfG isStrD k d=true →
    wfG isStrD k (wfD (putG o at_) n b d)=true∧knots (wfD (putG o at_) n b d)+cntD at_ n b d=knots d+cntD at_ n b d*knots o∧depth (wfD (putG o at_) n b d)≤depth d+depth o∧cntD at_ n b d≤knots d
  | 0,_,_,_,_,h,_=>absurd h (Nat.not_lt_zero _)
  | n + 1, b, d, k, hb, hd, wf => by
    obtain ⟨x,ps,rfl⟩:=wf_form wf
    by_cases hv:x = "var"
    · subst hv
      obtain ⟨i,rfl,hi,rfl⟩:=wf_varD wf
      have e:wfD (putG o at_) (n+1) b (.tup [.str "var",.int i])=if b≤i then putG o at_ (i-b) b else .tup [.str "var",.int i]:=by rw [wfD,if_pos rfl]
      have ec:cntD at_ (n+1) b (.tup [.str "var",.int i])=if i=at_+b then 1 else 0:=by rw [cntD,if_pos rfl]
      have k1:∀ z:Int,knots (.tup [.str "var",.int z])=1∧depth (.tup [.str "var",.int z])=1:=fun z=>⟨by simp [knots,knotsL],by simp [depth,depthL]⟩
      rw [e,ec,(k1 i).1,(k1 i).2]
      by_cases c:b≤i
      · rw [if_pos c]
        unfold putG
        by_cases c2:i-b=at_
        · rw [if_pos c2,if_pos (show i=at_+b by omega)]
          obtain ⟨a1,a2,a3⟩:=wfD_keeps (low:=0) hb 58 0 o false (Int.le_refl 0) ho wo
          rw [a2,a3]
          exact ⟨a1,by omega,by omega,Nat.le_refl _⟩
        · rw [if_neg c2,if_neg (show ¬ i=at_+b by omega),(k1 _).1,(k1 _).2]
          refine ⟨wf_varA ?_,by omega,by omega,Nat.zero_le _⟩
          split <;> omega
      · rw [if_neg c,if_neg (show ¬ i=at_+b by omega),(k1 _).1,(k1 _).2]
        exact ⟨wf,by omega,by omega,Nat.zero_le _⟩
    · have e:wfD (putG o at_) (n+1) b (.tup (.str x::ps))=rebuiltD x ps ((List.range (kidsD x ps).length).map fun i=>wfD (putG o at_) n (b+bdI x i) (((kidsD x ps)[i]?).getD .non)):=by
        conv=>lhs; unfold wfD
        exact if_neg hv
      have ec:cntD at_ (n+1) b (.tup (.str x::ps))=((List.range (kidsD x ps).length).map fun i=>cntD at_ n (b+bdI x i) (((kidsD x ps)[i]?).getD .non)).sum:=by
        conv=>lhs; unfold cntD
        exact if_neg hv
      rw [e,ec]
      have each:∀ (i:Nat),i∈List.range (kidsD x ps).length→∃ p k',(kidsD x ps)[i]?=some p∧depth p<depth (.tup (.str x::ps))∧wfG isStrD k' p=true:=fun i hi=>by
        obtain ⟨p,hp⟩:∃ p,(kidsD x ps)[i]?=some p:=⟨_,List.getElem?_eq_getElem (List.mem_range.mp hi)⟩
        obtain ⟨⟨k',w1⟩,w2⟩:=wf_kid wf hp
        exact ⟨p,k',hp,w2,w1⟩
      obtain ⟨q1,q2⟩:=kids_knots wf
      obtain ⟨r1,r2⟩:=reb_knots wf fun i=>wfD (putG o at_) n (b+bdI x i) (((kidsD x ps)[i]?).getD .non)
      rw [r1,r2,q1,q2]
      refine ⟨kids_map wf _ fun i p c e1 e2 e3=>?_,?_,?_,?_⟩
      · obtain ⟨w1,w2⟩:=wf_kid wf e1
        obtain ⟨k',h1,h2⟩:=due_wf e2 e3
        rw [e1]
        exact h2 _ (pin_keeps hat wo ho n (b+bdI x i) p k' (by have:=bdI_nn x i; omega) (by omega) h1).1
      · have:=sum_lin (fun i=>knots (wfD (putG o at_) n (b+bdI x i) (((kidsD x ps)[i]?).getD .non))) (fun i=>knots (((kidsD x ps)[i]?).getD .non)) (fun i=>cntD at_ n (b+bdI x i) (((kidsD x ps)[i]?).getD .non)) (knots o) (List.range (kidsD x ps).length) fun i hi=>by
          obtain ⟨p,k',hp,w2,w1⟩:=each i hi
          simp only [hp,Option.getD_some]
          exact (pin_keeps hat wo ho n (b+bdI x i) p k' (by have:=bdI_nn x i; omega) (by omega) w1).2.1
        omega
      · have:=max_le2 (fun i=>depth (wfD (putG o at_) n (b+bdI x i) (((kidsD x ps)[i]?).getD .non))) (fun i=>depth (((kidsD x ps)[i]?).getD .non)) (depth o) (List.range (kidsD x ps).length) fun i hi=>by
          obtain ⟨p,k',hp,w2,w1⟩:=each i hi
          simp only [hp,Option.getD_some]
          exact (pin_keeps hat wo ho n (b+bdI x i) p k' (by have:=bdI_nn x i; omega) (by omega) w1).2.2.1
        omega
      · have:=sum_le2 (fun i=>cntD at_ n (b+bdI x i) (((kidsD x ps)[i]?).getD .non)) (fun i=>knots (((kidsD x ps)[i]?).getD .non)) (List.range (kidsD x ps).length) fun i hi=>by
          obtain ⟨p,k',hp,w2,w1⟩:=each i hi
          simp only [hp,Option.getD_some]
          exact (pin_keeps hat wo ho n (b+bdI x i) p k' (by have:=bdI_nn x i; omega) (by omega) w1).2.2.2
        omega
theorem place_eq {o:D} {at_:Int} (hat:0≤at_) (wo:wfG isStrD false o=true) (ho:depth o<58):∀ (n:Nat) (b:Int) (d:D) (k:Bool),0≤b→depth d<n→wfG isStrD k d=true→wfD (putG o at_) n b d=plcD o at_ n b d
  | 0,_,_,_,_,h,_=>absurd h (Nat.not_lt_zero _)
  | n + 1, b, d, k, hb, hd, wf => by
    obtain ⟨x,ps,rfl⟩:=wf_form wf
    by_cases hv:x = "var"
    · subst hv
      obtain ⟨i,rfl,hi,rfl⟩:=wf_varD wf
      have e:wfD (putG o at_) (n+1) b (.tup [.str "var",.int i])=if b≤i then putG o at_ (i-b) b else .tup [.str "var",.int i]:=by rw [wfD,if_pos rfl]
      have ep:plcD o at_ (n+1) b (.tup [.str "var",.int i])=if i=at_+b then movD b 58 0 o else .tup [.str "var",.int (i-(if at_+b<i then 1 else 0))]:=by rw [plcD,if_pos rfl]
      rw [e,ep]
      by_cases c:b≤i
      · rw [if_pos c]
        unfold putG
        by_cases c2:i-b=at_
        · rw [if_pos c2,if_pos (show i=at_+b by omega)]
          have:=mov_eq (by_:=b) (low:=0) (Int.le_refl 0) 58 0 o false (Int.le_refl 0) ho wo
          rwa [Int.add_zero] at this
        · rw [if_neg c2,if_neg (show ¬ i=at_+b by omega)]
          have:i-b+b-(if at_<i-b then 1 else 0)=i-(if at_+b<i then (1:Int) else 0):=by
            by_cases c3:at_<i-b
            · rw [if_pos c3,if_pos (by omega)]; omega
            · rw [if_neg c3,if_neg (by omega)]; omega
          rw [this]
      · rw [if_neg c,if_neg (show ¬ i=at_+b by omega),if_neg (show ¬ at_+b<i by omega),Int.sub_zero]
    · conv=>lhs; unfold wfD
      conv=>rhs; unfold plcD
      rw [if_neg hv,if_neg hv]
      congr 1
      refine List.map_congr_left fun i hi=>?_
      have hi:i<(kidsD x ps).length:=List.mem_range.mp hi
      obtain ⟨di,hdi⟩:∃ di,(kidsD x ps)[i]?=some di:=⟨_,List.getElem?_eq_getElem hi⟩
      obtain ⟨⟨k',w1⟩,w2⟩:=wf_kid wf hdi
      rw [hdi]
      exact place_eq hat wo ho n (b+bdI x i) di k' (by have:=bdI_nn x i; omega) (by omega) w1
end K27
end
section
set_option maxHeartbeats 4000000
namespace K27
open PySem L2 L3 KM PyProof.Rows
seal L2.PE L2.PS L2.PSs L2.PT L2.PW L2.PA L2.PG L2.PGs L2.PI L2.PC L2.PO L2.PPs L2.PK L3.PIf L3.PH L3.PB
variable {P:Program} {w:World} {K:PySem.W.Frag} {mg:Str→Option Value} {base:Heap} {t:Adr}
theorem plI_toI (pl:List Nat):plI (toI pl)=plD pl:=by
  unfold plI toI plD
  rw [List.map_map]
  rfl
def Aft (e:D) (r:Str) (e':D) (g:Bool):Prop :=
  (r = "fun" ∧ ∃ k bd o:D,e=.tup [.str "app",.tup [.str "fun",k,bd],o]∧Wf bd∧Wf o∧depth bd<58∧depth o<58∧e'=pinD o 0 bd∧g=greatD e'∧Rz e' 100) ∨
  (r = "zero" ∧ g=false∧∃ k s n:D,e=.tup [.str "rec",k,e',s,n])
structure Tbs (H:Hp) (T1 T2:Addr):Prop where
  t1:TabOk H T1 tabQ tabP
  t2:TabOk H T2 tabQ2 tabP2
theorem Tbs.mono {H H':Hp} {T1 T2:Addr} (h:Tbs H T1 T2) (s:Same H H'):Tbs H' T1 T2:=⟨h.t1.mono s,h.t2.mono s⟩
def spAfter (G T1 T2:Addr):Sp:=fun vs H Q E=>∃ (e e':D) (v:V) (r:Str) (b:Addr) (g:Bool),vs=[v,.str r,.ref b]∧Rep H e v∧Aft e r e' g∧Tbs H T1 T2 ∧
  (∀ (z:V) (H':Hp),Same H H'→g=false→Rep H' e' z→Q z H')∧(∀ H',Same H H'→g=true→E (.ref G) none H')
theorem sc_after_rule:FnScope ["thing", "rule", "book"] ["thing", "rule", "book"] (defScope s_after_rule):=⟨rfl,rfl,rfl,by decide +kernel,rfl,by decide +kernel,by decide +kernel⟩
theorem c_after_rule {T1 T2:Addr} (D:Df K mg "after_rule" s_after_rule ["thing", "rule", "book"]) (M:Mg mg t) (F_put_in:Cal P w K mg (CXo P w) "put_in" (126) ["thing", "other", "at"] (spPutIn t.Great T1 T2)) (F_after_next:Cal P w K mg CX0 "after_next" (1) ["thing"] (fun _ _ _ _=>False)):Cal P w K mg (CXo P w) "after_rule" (127) ["thing", "rule", "book"] (spAfter t.Great T1 T2):=by
  refine D.okX sc_after_rule (fun vs H Q E h=>?_) (fun base f cdv A outer s H vs Q E hr h=>?_)
  · obtain ⟨e,e',v,r,b,g,rfl,_⟩:=h
    rfl
  obtain ⟨e,e',v,r,b,g,rfl,re,ha,hT,q,qe⟩:=h
  have hu:=hu_of hr
  refine ⟨_,(pss_cons (ps_if (pt_cmpR op_eq (pv 1) pe_str (nomark _)) (pss_one (ps_ret (pe_fn F_put_in (hr.mono (by omega)) rfl passes_o (pa_cons (pe_ix ix_tup (pe_ix ix_tup (pv 0) pe_int (fun _ _=>rfl)) pe_int (fun _ _=>rfl)) (pa_cons (pe_ix ix_tup (pv 0) pe_int (fun _ _=>rfl)) (pa_cons pe_int pa_nil)))))) pss_nil)
      (pss_cons (ps_if (pt_cmpR op_eq (pv 1) pe_str (nomark _)) (pss_one (ps_ret (pe_fn F_after_next (hr.mono (by omega)) rfl pass0 (pa_cons (pv 0) pa_nil)))) pss_nil)
      (pss_cons (ps_if (pt_cmpR op_eq (pv 1) pe_str (nomark _)) (pss_one (ps_ret (pe_ix ix_tup (pe_ix ix_tup (pv 0) pe_int (fun _ _=>rfl)) pe_int (fun _ _=>rfl)))) pss_nil)
      (pss_cons (ps_if (pt_cmpR op_eq (pv 1) pe_str (nomark _)) (pss_one (ps_ret (pe_ix ix_tup (pe_ix ix_tup (pv 0) pe_int (fun _ _=>rfl)) pe_int (fun _ _=>rfl)))) pss_nil)
      (pss_cons (ps_if (pt_cmpR op_eq (pv 1) pe_str (nomark _)) (pss_one (ps_ret (pe_ix ix_tup (pe_dget hu (pv 2) (pe_ix ix_tup (pv 0) pe_int (fun _ _=>rfl)) (fun _ _=>rfl)) pe_int (fun _ _=>rfl)))) pss_nil)
      (pss_one (ps_ret (pe_ix ix_tup (pv 0) pe_int (fun _ _=>rfl))))))))),?_⟩
  try dsimp only [cxK,cxK2]
  refine let6 ?_
  intro _ _ _ _ _ _
  rcases ha with ⟨rfl,k,bd,o,rfl,wb,wo,db,dO,rfl,rfl,rz⟩ | ⟨rfl,rfl,k,s,n,rfl⟩
  · obtain ⟨a,us,rfl,ha,v0,us,rfl,⟨rfl,_⟩,v1,us,rfl,r1,v2,us,rfl,r2,rn⟩:=re
    cases (show us=[] from rn)
    obtain ⟨c,ws,rfl,hc,w0,ws,rfl,⟨rfl,_⟩,w1,ws,rfl,rk,w2,ws,rfl,rb,rn⟩:=r1
    cases (show ws=[] from rn)
    refine ⟨_,rfl,rfl,_,rfl,ite2 (fun _=>?_) (fun c=>absurd (decide_eq_true rfl) c)⟩
    refine ⟨_,rfl,a,_,_,_,rfl,rfl,SqT.of ha,atI_nat (j:=1) rfl,c,_,_,_,rfl,rfl,SqT.of hc,atI_nat (j:=2) rfl,_,rfl,a,_,_,_,rfl,rfl,SqT.of ha,atI_nat (j:=2) rfl,?_⟩
    exact ⟨bd,o,w2,v2,0,rfl,⟨rb,r2,wb,wo,db,dO,rz,hT.t1,hT.t2⟩,q,qe⟩
  · obtain ⟨a,us,rfl,ha,v0,us,rfl,⟨rfl,_⟩,v1,us,rfl,r1,v2,us,rfl,r2,v3,us,rfl,r3,v4,us,rfl,r4,rn⟩:=re
    cases (show us=[] from rn)
    refine ⟨_,rfl,rfl,_,rfl,ite2 (fun c=>absurd (of_decide_eq_true c) (by decide +kernel)) (fun _=>?_)⟩
    refine ⟨_,rfl,rfl,_,rfl,ite2 (fun c=>absurd (of_decide_eq_true c) (by decide +kernel)) (fun _=>?_)⟩
    refine ⟨_,rfl,rfl,_,rfl,ite2 (fun c=>absurd (of_decide_eq_true c) (by decide +kernel)) (fun _=>?_)⟩
    refine ⟨_,rfl,rfl,_,rfl,ite2 (fun c=>absurd (of_decide_eq_true c) (by decide +kernel)) (fun _=>?_)⟩
    refine ⟨_,rfl,rfl,_,rfl,ite2 (fun c=>absurd (of_decide_eq_true c) (by decide +kernel)) (fun _=>?_)⟩
    exact ⟨_,rfl,a,_,_,_,rfl,rfl,SqT.of ha,atI_nat (j:=2) rfl,q _ H (Same.refl H) rfl r2⟩
structure StOk (inb:Str→Bool) (d:D) (pl:List Int) (r:Str) (e':D) (g:Bool):Prop where
  ex:∃ e,goto d pl=some e∧Wf e∧ruleD inb e=.str r∧Aft e r e' g
  wf:Wf d
  ln:pl.length<100
  rz:Rz (putD d pl e') 100
def spStep (G T1 T2:Addr):Sp:=fun vs H Q E=>∃ (d e':D) (v pw:V) (pl:List Int) (b:Addr) (kvs:List (Key×V)) (r:Str) (g:Bool),vs=[v,pw,.ref b]∧Rep H d v∧Rep H (plI pl) pw∧H b=some (.dK kvs)∧StOk (inB kvs) d pl r e' g∧Tbs H T1 T2 ∧
  (∀ (z:V) (H':Hp),Same H H'→(g || greatD (putD d pl e'))=false→Rep H' (putD d pl e') z→Q z H')∧(∀ H',Same H H'→(g || greatD (putD d pl e'))=true→E (.ref G) none H')
theorem sc_stepped:FnScope ["thing", "place", "book", "here", "rule"] ["thing", "place", "book"] (defScope s_stepped):=⟨rfl,rfl,rfl,by decide +kernel,rfl,by decide +kernel,by decide +kernel⟩
theorem c_stepped {T1 T2:Addr} (D:Df K mg "stepped" s_stepped ["thing", "place", "book"]) (M:Mg mg t) (E_NoStep:ExcK K t.NoStep) (F_at_place:Cal P w K mg (CXo P w) "at_place" (3) ["thing", "place"] (spAt t.NoPlace)) (F_rule_of:Cal P w K mg CX0 "rule_of" (1) ["thing", "book"] spRule) (F_with_at:Cal P w K mg (CXo P w) "with_at" (105) ["thing", "place", "new"] (spPut t.NoPlace t.Great 100)) (F_after_rule:Cal P w K mg (CXo P w) "after_rule" (127) ["thing", "rule", "book"] (spAfter t.Great T1 T2)):Cal P w K mg (CXo P w) "stepped" (128) ["thing", "place", "book"] (spStep t.Great T1 T2):=by
  refine D.okX sc_stepped (fun vs H Q E h=>?_) (fun base f cdv A outer s H vs Q E hr h=>?_)
  · obtain ⟨d,e',v,pw,pl,b,kvs,r,g,rfl,_⟩:=h
    rfl
  obtain ⟨d,e',v,pw,pl,b,kvs,r,g,rfl,rd,rp,hb,ok,hT,q,qe⟩:=h
  obtain ⟨⟨e,hg,we,hr1,ha⟩,wd,hl,rz⟩:=ok
  refine ⟨_,(pss_cons (ps_set (i:=3) sc_stepped.nd rfl (by first | exact Or.inl rfl | exact Or.inr rfl) (pe_fn F_at_place (hr.mono (by omega)) rfl passes_o (pa_cons (pv 0) (pa_cons (pv 1) pa_nil))))
      (pss_cons (ps_set (i:=4) sc_stepped.nd rfl (by first | exact Or.inl rfl | exact Or.inr rfl) (pe_fn F_rule_of (hr.mono (by omega)) rfl pass0 (pa_cons (pv 3) (pa_cons (pv 2) pa_nil))))
      (pss_cons (ps_if (pt_cmpR op_isN (pv 4) pe_non (nomark _)) (pss_one (ps_raise (G:=(fun H'=>E (.ref t.NoStep) none H')) E_NoStep M.g_NoStep (pa_cons pe_str pa_nil) (fun pins σ H s e h' I m q=>xe_made I m q))) pss_nil)
      (pss_one (ps_ret (pe_fn F_with_at (hr.mono (by omega)) rfl passes_o (pa_cons (pv 0) (pa_cons (pv 1) (pa_cons (pe_fn F_after_rule (hr.mono (by omega)) rfl passes_o (pa_cons (pv 3) (pa_cons (pv 4) (pa_cons (pv 2) pa_nil)))) pa_nil))))))))),?_⟩
  try dsimp only [cxK,cxK2]
  refine let4 ?_
  intro _ _ _ _
  refine ⟨_,rfl,_,rfl,d,v,pl,pw,rfl,rd,wd,rp,fun e1 u H1 s1 g1 r1=>?_,fun H1 s1 g1=>by rw [hg] at g1; cases g1⟩
  rw [hg] at g1
  cases g1
  refine ⟨_,rfl,_,rfl,e,u,b,kvs,rfl,r1,we,s1 _ _ hb,fun H2 s2=>?_⟩
  rw [hr1]
  refine ⟨_,rfl,rfl,_,rfl,ite2 (fun c=>absurd c (by simp)) (fun _=>?_)⟩
  have s12:=s1.trans s2
  refine ⟨_,rfl,_,rfl,_,rfl,_,rfl,_,rfl,e,e',u,r,b,g,rfl,r1.mono s2,ha,hT.mono s12,fun z H3 s3 hgf r3=>?_,fun H3 s3 hgt=>qe H3 (s12.trans s3) (by rw [hgt]; rfl)⟩
  have s13:=s12.trans s3
  refine ⟨d,v,pl,pw,e',z,rfl,rd.mono s13,wd,rp.mono s13,r3,hl,fun _=>rz,fun u' H4 s4 _ hv r4=>q u' H4 (s13.trans s4) (by rw [hgf]; exact hv) r4,(fun H4 s4 h4=>by rw [hg] at h4; cases h4),fun H4 s4 _ hv=>qe H4 (s13.trans s4) (by rw [hgf]; exact hv)⟩
def spWalk (G T1 T2:Addr):Sp:=fun vs H Q E=>∃ (d e':D) (v pw:V) (pl:List Int) (b lg row:Addr) (kvs:List (Key×V)) (r:Str) (g:Bool),vs=[v,.ref lg,.ref b]∧Rep H d v∧H lg=some (.lst [.ref row])∧H row=some (.tup [pw,.str r])∧Rep H (plI pl) pw∧H b=some (.dK kvs)∧StOk (inB kvs) d pl r e' g∧Tbs H T1 T2 ∧
  (∀ (z:V) (H':Hp),Same H H'→(g || greatD (putD d pl e'))=false→Rep H' (putD d pl e') z→Q z H')∧(∀ H',Same H H'→(g || greatD (putD d pl e'))=true→E (.ref G) none H')
theorem sc_walked:FnScope ["thing", "log", "book", "here", "place", "rule"] ["thing", "log", "book"] (defScope s_walked):=⟨rfl,rfl,rfl,by decide +kernel,rfl,by decide +kernel,by decide +kernel⟩
theorem c_walked {T1 T2:Addr} (D:Df K mg "walked" s_walked ["thing", "log", "book"]) (M:Mg mg t) (E_NoStep:ExcK K t.NoStep) (F_at_place:Cal P w K mg (CXo P w) "at_place" (3) ["thing", "place"] (spAt t.NoPlace)) (F_rule_of:Cal P w K mg CX0 "rule_of" (1) ["thing", "book"] spRule) (F_stepped:Cal P w K mg (CXo P w) "stepped" (128) ["thing", "place", "book"] (spStep t.Great T1 T2)):Cal P w K mg (CXo P w) "walked" (129) ["thing", "log", "book"] (spWalk t.Great T1 T2):=by
  refine D.okX sc_walked (fun vs H Q E h=>?_) (fun base f cdv A outer s H vs Q E hr h=>?_)
  · obtain ⟨d,e',v,pw,pl,b,lg,row,kvs,r,g,rfl,_⟩:=h
    rfl
  obtain ⟨d,e',v,pw,pl,b,lg,row,kvs,r,g,rfl,rd,hlg,hrow,rp,hb,ok,hT,q,qe⟩:=h
  obtain ⟨⟨e,hg,we,hr1,ha⟩,wd,hl,rz⟩:=id ok
  refine ⟨_,(pss_cons (ps_set (i:=3) sc_walked.nd rfl (by first | exact Or.inl rfl | exact Or.inr rfl) (pv 0))
      (pss_cons (ps_for own_o rfl (pi_list (pv 1)) (pg_tup (n:=2) rfl (pgs_cons (pg_name (i:=4) sc_walked.nd rfl (by first | exact Or.inl rfl | exact Or.inr rfl)) (pgs_cons (pg_name (i:=5) sc_walked.nd rfl (by first | exact Or.inl rfl | exact Or.inr rfl)) pgs_nil))) (pss_cons (ps_if (pt_cmpR op_ne (pe_fn F_rule_of (hr.mono (by omega)) rfl pass0 (pa_cons (pe_fn F_at_place (hr.mono (by omega)) rfl passes_o (pa_cons (pv 3) (pa_cons (pv 4) pa_nil))) (pa_cons (pv 2) pa_nil))) (pv 5) (nomark _)) (pss_one (ps_raise (G:=(fun H'=>E (.ref t.NoStep) none H')) E_NoStep M.g_NoStep (pa_cons pe_str pa_nil) (fun pins σ H s e h' I m q=>xe_made I m q))) pss_nil)
      (pss_one (ps_set (i:=3) sc_walked.nd rfl (by first | exact Or.inl rfl | exact Or.inr rfl) (pe_fn F_stepped (hr.mono (by omega)) rfl passes_o (pa_cons (pv 3) (pa_cons (pv 4) (pa_cons (pv 2) pa_nil))))))))
      (pss_one (ps_ret (pv 3))))),?_⟩
  try dsimp only [cxK,cxK2]
  refine let3 ?_
  intro _ _ _
  refine ⟨_,rfl,_,rfl,lg,rfl,⟨_,SqL.of hlg⟩,?_⟩
  let Ifr:Nat→L2.St→Hp→Prop:=(fun j σ' H'=>∃ (u:V) (xv yv:Option V),σ'=[some v,some (.ref lg),some (.ref b),some u,xv,yv]∧Same H H'∧Rep H' (if j=0 then d else putD d pl e') u∧(0<j→(g || greatD (putD d pl e'))=false))
  refine for_by 1 Ifr ?_ ?_ ?_
  · exact ⟨v,none,none,rfl,Same.refl _,rd,fun h=>absurd h (by decide)⟩
  · rintro j σ' H1 hj ⟨u,xv,yv,rfl,s1,r1,_⟩
    have j0:j=0:=by omega
    subst j0
    rw [if_pos rfl] at r1
    refine ⟨⟨_,_,SqL.of (s1 _ _ hlg),rfl⟩,?_⟩
    rintro x' H2 ⟨rfl,hy⟩
    have hy:=hy _ (SqL.of (s1 _ _ hlg))
    cases hy
    refine ⟨row,_,rfl,SqT.of (s1 _ _ hrow),rfl,_,_,rfl,_,_,rfl,rfl,?_⟩
    refine ⟨_,rfl,_,rfl,d,u,pl,pw,rfl,r1,wd,rp.mono s1,fun e1 u2 H3 s3 g1 r3=>?_,fun H3 s3 g1=>by rw [hg] at g1; cases g1⟩
    rw [hg] at g1
    cases g1
    have s13:=s1.trans s3
    refine ⟨_,rfl,e,u2,b,kvs,rfl,r3,we,s13 _ _ hb,fun H4 s4=>?_⟩
    rw [hr1]
    refine ⟨_,rfl,rfl,_,rfl,ite2 (fun c=>absurd c (by simp)) (fun _=>?_)⟩
    have s14:=s13.trans s4
    refine ⟨_,rfl,_,rfl,_,rfl,d,e',u,pw,pl,b,kvs,r,g,rfl,r1.mono (s3.trans s4),rp.mono s14,s14 _ _ hb,ok,hT.mono s14,fun z H5 s5 hgf r5=>?_,fun H5 s5 hgt=>qe H5 (s14.trans s5) hgt⟩
    exact ⟨z,_,_,rfl,s14.trans s5,r5,fun _=>hgf⟩
  · rintro σ' H1 ⟨u,xv,yv,rfl,s1,r1,hgf⟩
    refine ⟨⟨_,SqL.of (s1 _ _ hlg),Nat.le_refl _⟩,?_⟩
    exact ⟨_,rfl,q u H1 s1 (hgf (by decide)) r1⟩
def Run (inb:Str→Bool) (res:Option D):List Sp2→D→Prop
  | [],d=>(fstD inb d=none∧res=some d)∨(res=none∧∃ (r:Sp2) (e':D) (g:Bool),fstD inb d=some r∧StOk inb d (toI r.1) r.2 e' g∧(g || greatD (putD d (toI r.1) e'))=true)
  | r::rs,d=>∃ (e':D) (g:Bool),fstD inb d=some r∧StOk inb d (toI r.1) r.2 e' g∧(g || greatD (putD d (toI r.1) e'))=false∧Run inb res rs (putD d (toI r.1) e')
def spNormal (G T1 T2:Addr):Sp:=fun vs H Q E=>∃ (d:D) (v:V) (fuel:Int) (b:Addr) (kvs:List (Key×V)) (rs:List Sp2) (res:Option D),vs=[v,.int fuel,.ref b]∧Rep H d v∧Rz d 60∧H b=some (.dK kvs)∧Run (inB kvs) res rs d∧((rs.length:Nat):Int)<fuel∧rs.length≤1000∧Tbs H T1 T2 ∧
  (∀ (d':D) (p lg:Addr) (us:List V) (u:V) (H':Hp),res=some d'→Same H H'→H' p=some (.tup [u,.ref lg])→H' lg=some (.lst us)→Reps H' (rs.map prD) us→Rep H' d' u→Q (.ref p) H')∧(res=none→∀ H',Same H H'→E (.ref G) none H')
theorem Reps_one {H:Hp} {d:D} {v:V} (h:Rep H d v):Reps H [d] [v]:=⟨v,[],rfl,h,rfl⟩
theorem not_great {d:D} (h:greatD d=false):depth d≤40∧knots d≤600:=by
  have h:(vastD d || bigD d)=false:=h
  rw [Bool.or_eq_false_iff] at h
  have h:=h.1
  unfold vastD at h
  simp at h
  omega
theorem sc_normal:FnScope ["thing", "fuel", "book", "here", "log", "step"] ["thing", "fuel", "book"] (defScope s_normal):=⟨rfl,rfl,rfl,by decide +kernel,rfl,by decide +kernel,by decide +kernel⟩
theorem c_normal {T1 T2:Addr} (D:Df K mg "normal" s_normal ["thing", "fuel", "book"]) (M:Mg mg t) (E_Dry:ExcK K t.Dry) (F_first_step:Cal P w K mg CX0 "first_step" (63) ["thing", "book"] (spFirst 60)) (F_stepped:Cal P w K mg (CXo P w) "stepped" (128) ["thing", "place", "book"] (spStep t.Great T1 T2)):Cal P w K mg (CXo P w) "normal" (129) ["thing", "fuel", "book"] (spNormal t.Great T1 T2):=by
  refine D.okX sc_normal (fun vs H Q E h=>?_) (fun base f cdv A outer s H vs Q E hr h=>?_)
  · obtain ⟨d,v,fuel,b,kvs,rs,res,rfl,_⟩:=h
    rfl
  obtain ⟨d,v,fuel,b,kvs,rs,res,rfl,rd,rz,hb,hrun,hf,hrl,hT,q,qe⟩:=h
  refine ⟨_,(pss_cons (ps_set (i:=3) sc_normal.nd rfl (by first | exact Or.inl rfl | exact Or.inr rfl) (pv 0))
      (pss_cons (ps_set (i:=4) sc_normal.nd rfl (by first | exact Or.inl rfl | exact Or.inr rfl) (pe_lst pa_nil))
      (pss_cons (ps_set (i:=5) sc_normal.nd rfl (by first | exact Or.inl rfl | exact Or.inr rfl) (pe_fn F_first_step (hr.mono (by omega)) rfl pass0 (pa_cons (pv 3) (pa_cons (pv 2) pa_nil))))
      (pss_cons (ps_while own_o (pt_cmpR op_notN (pv 5) pe_non (nomark _)) (pss_cons (ps_if (pt_cmpR op_ge (pe_callB call_len_seq rfl M.n_len bt_len (pa_cons (pv 4) pa_nil)) (pv 1) (nomark _)) (pss_one (ps_raise (G:=(fun H'=>E (.ref t.Dry) none H')) E_Dry M.g_Dry (pa_cons pe_str pa_nil) (fun pins σ H s e h' I m q=>xe_made I m q))) pss_nil)
      (pss_cons (ps_set (i:=3) sc_normal.nd rfl (by first | exact Or.inl rfl | exact Or.inr rfl) (pe_fn F_stepped (hr.mono (by omega)) rfl passes_o (pa_cons (pv 3) (pa_cons (pe_ix ix_tup (pv 5) pe_int (fun _ _=>rfl)) (pa_cons (pv 2) pa_nil)))))
      (pss_cons (ps_expr (pe_bm PySem.F.plainAttrs_list PySem.F.slot_list_append PySem.F.type_list_append mt_append (pv 4) (pa_cons (pv 5) pa_nil)))
      (pss_one (ps_set (i:=5) sc_normal.nd rfl (by first | exact Or.inl rfl | exact Or.inr rfl) (pe_fn F_first_step (hr.mono (by omega)) rfl pass0 (pa_cons (pv 3) (pa_cons (pv 2) pa_nil)))))))))
      (pss_one (ps_ret (pe_tup (pa_cons (pv 3) (pa_cons (pv 4) pa_nil))))))))),?_⟩
  try dsimp only [cxK,cxK2]
  refine let5 ?_
  intro _ _ _ _ _
  refine ⟨_,rfl,(by show 0≤sizeLine; decide),fun lg hlg=>?_⟩
  have t1:=same_new hlg (.lst [])
  have h1:(upd H lg (.lst [])) lg=some (.lst []):=upd_same
  generalize upd H lg (.lst [])=H1 at t1 h1 ⊢
  refine ⟨_,rfl,_,rfl,d,v,b,kvs,rfl,rd.mono t1,rz,by decide,t1 _ _ hb,fun sv H2 s2 f2=>?_⟩
  let Iw:Nat→L2.St→Hp→Prop:=fun m σ' H'=>∃ (dn rest:List Sp2) (dh:KM.D) (u sv:V) (us:List V),σ'=[some v,some (.int fuel),some (.ref b),some u,some (.ref lg),some sv]∧m=rest.length∧Same H H'∧Rep H' dh u∧Rz dh 60∧H' lg=some (.lst us)∧Reps H' (dn.map prD) us∧Run (inB kvs) res rest dh∧rs=dn++rest∧FsV H' (fstD (inB kvs) dh) sv
  refine ⟨Iw,⟨_,[],rs,d,v,sv,[],rfl,rfl,t1.trans s2,rd.mono (t1.trans s2),rz,s2 _ _ h1,rfl,hrun,rfl,f2⟩,?_⟩
  clear t1 h1 s2 f2 rd rz hrun
  rintro m σ' H3 ⟨dn,rest,dh,u,sv,us,rfl,rfl,s3,r3,rz3,h3,rl3,run3,ers,f3⟩
  have lus:=rl3.length
  rw [List.length_map] at lus
  have lrs:rs.length=dn.length+rest.length:=by rw [ers,List.length_append]
  cases ef:fstD (inB kvs) dh with
  | none =>
    rw [ef] at f3
    cases (show sv=V.non from f3)
    refine ⟨_,rfl,rfl,_,rfl,ite2 (fun c=>absurd c (by decide)) (fun _=>?_)⟩
    refine ⟨_,rfl,_,rfl,(by show 2≤sizeLine; decide),fun p hp=>?_⟩
    have tp:=same_new hp (.tup [u,.ref lg])
    cases rest with
    | cons r rs' =>
      obtain ⟨e',g,e0,_⟩:=run3
      rw [ef] at e0
      cases e0
    | nil =>
      rcases run3 with ⟨_,e0⟩ | ⟨_,r,e',g,e0,_⟩
      · rw [List.append_nil] at ers
        rw [← ers] at rl3
        exact q dh p lg us u _ e0 (s3.trans tp) upd_same (tp _ _ h3) (rl3.mono tp) (r3.mono tp)
      · rw [ef] at e0
        cases e0
  | some r =>
    rw [ef] at f3
    obtain ⟨bq,_,rfl,hbq,⟨v1,_,rfl,r1,⟨v2,_,rfl,⟨rfl,hy2⟩,rn⟩⟩⟩:=id f3
    cases (show _=[] from rn)
    refine ⟨_,rfl,rfl,_,rfl,ite2 (fun _=>?_) (fun c=>absurd rfl c)⟩
    have rpl:Rep H3 (plI (toI r.1)) v1:=by rw [plI_toI]; exact r1
    have hb3:=s3 _ _ hb
    refine ⟨fun σ' H'=>∃ m',m'<rest.length∧Iw m' σ' H',fun σ' H' h=>h,?_⟩
    refine ⟨_,rfl,lg,us,rfl,.inl (SqL.of h3),_,rfl,_,_,rfl,rfl,_,rfl,ite2 (fun c=>?_) (fun _=>?_)⟩
    · have c:fuel≤((us.length:Nat):Int):=of_decide_eq_true c
      omega
    refine ⟨_,rfl,_,rfl,bq,_,_,_,rfl,rfl,SqT.of hbq,atI_nat (j:=0) rfl,_,rfl,?_⟩
    cases rest with
    | nil =>
      rcases run3 with ⟨e0,_⟩ | ⟨eres,r',e',g,e0,ok,hgt⟩
      · rw [ef] at e0
        cases e0
      · rw [ef] at e0
        cases e0
        exact ⟨dh,e',u,v1,toI r.1,b,kvs,r.2,g,rfl,r3,rpl,hb3,ok,hT.mono s3,(fun z H4 s4 hgf r4=>by rw [hgt] at hgf; cases hgf),fun H4 s4 _=>qe eres H4 (s3.trans s4)⟩
    | cons r' rs' =>
      obtain ⟨e',g,e0,ok,hgf,run4⟩:=run3
      rw [ef] at e0
      cases e0
      refine ⟨dh,e',u,v1,toI r.1,b,kvs,r.2,g,rfl,r3,rpl,hb3,ok,hT.mono s3,fun z H4 s4 _ r4=>?_,fun H4 s4 hgt=>by rw [hgf] at hgt; cases hgt⟩
      have hg2:greatD (putD dh (toI r.1) e')=false:=by
        rw [Bool.or_eq_false_iff] at hgf
        exact hgf.2
      obtain ⟨k1,k2⟩:=not_great hg2
      have rz4:Rz (putD dh (toI r.1) e') 60:=⟨ok.rz.wf,by omega,by omega⟩
      have h4:=s4 _ _ h3
      have sv4:Rep H4 (prD r) (.ref bq):=Rep.mono s4 f3
      refine ⟨_,rfl,.inl ⟨rfl,_,SqL.of h4⟩,_,rfl,lg,us,_,rfl,rfl,h4,(by rw [sizeLine_eq]; omega),?_⟩
      have s34:=s3.trans s4
      have hlg0:H lg=none:=hlg
      have sH:Same H (upd H4 lg (.lst (us++[.ref bq]))):=fun a o ha=>by
        rw [upd_ne (ne_of_none ha hlg0)]
        exact s34 _ _ ha
      refine ⟨_,rfl,_,rfl,_,z,b,kvs,rfl,r4.updL h4,rz4,by decide,sH _ _ hb,fun sv' H6 s6 f6=>?_⟩
      refine ⟨_,by show rs'.length<rs'.length+1; omega,dn++[r],rs',_,z,sv',us++[.ref bq],rfl,rfl,sH.trans s6,(r4.updL h4).mono s6,rz4,s6 _ _ upd_same,?_,run4,by rw [ers,List.append_assoc]; rfl,f6⟩
      rw [List.map_append]
      refine Reps.mono s6 ?_
      exact ((rl3.mono s4).append (Reps_one sv4)).updL h4
end K27
end
section
set_option maxHeartbeats 1000000
namespace K27
open PySem L2 L3 KM PyProof.Rows
seal L2.PE L2.PS L2.PSs L2.PT L2.PW L2.PA L2.PG L2.PGs L2.PI L2.PC L2.PO L2.PPs L2.PK L3.PIf
variable {P:Program} {w:World} {K:PySem.W.Frag} {mg:Str→Option Value} {base:Heap} {t:Adr}
structure Tp (K:PySem.W.Frag) (a p:Addr) (ns:List Int) (H:Hp) (i:Int):Prop where
  src:(a≠p∧Rd H a (.lst (ns.map V.int)))∨∀ H':Hp,SqL K H' a (ns.map V.int)
  len:ns.length≤63
  tape:H p=some (.lst [.int i])
  i0:0≤i
theorem Tp.scr {a p:Addr} {ns:List Int} {H:Hp} {i:Int} (T:Tp K a p ns H i) (H':Hp) (s:SameX p H H'):SqL K H' a (ns.map V.int):=by
  rcases T.src with ⟨n,h | ⟨o,h⟩⟩ | h
  · exact .inl (.inl (s _ _ n h))
  · exact .inl (.inr ⟨o,s _ _ n h⟩)
  · exact h H'
theorem Tp.next {a p:Addr} {ns:List Int} {H H':Hp} {i j:Int} (T:Tp K a p ns H i) (s:SameX p H H') (h:H' p=some (.lst [.int j])) (hj:0≤j):Tp K a p ns H' j :=
  ⟨by
    rcases T.src with ⟨n,h | ⟨o,h⟩⟩ | h
    · exact .inl ⟨n,.inl (s _ _ n h)⟩
    · exact .inl ⟨n,.inr ⟨o,s _ _ n h⟩⟩
    · exact .inr h,T.len,h,hj⟩
theorem Tp.mono {a p:Addr} {ns:List Int} {H H':Hp} {i:Int} (T:Tp K a p ns H i) (s:Same H H'):Tp K a p ns H' i:=T.next s.x (s _ _ T.tape) T.i0
theorem Tp.rep {a p:Addr} {ns:List Int} {H H':Hp} {i:Int} {d:D} {v:V} (T:Tp K a p ns H i) (s:SameX p H H') (r:Rep H d v):Rep H' d v :=
  r.monoX s fun vs z=>by rw [T.tape] at z; cases z
def spDraw (K:PySem.W.Frag):Sp:=fun vs H Q _=>∃ (a p:Addr) (ns:List Int) (i m:Int),vs=[.ref a,.ref p,.int m]∧Tp K a p ns H i∧i<2 ^ 60∧0<m ∧
  ∀ (z:Int) (H':Hp),0≤z→z<m→SameX p H H'→H' p=some (.lst [.int (i+1)])→Q (.int z) H'
theorem sc_law_draw:FnScope ["_law_script", "_law_tape", "_law_many", "_law_seed", "_law_cell"] ["_law_script", "_law_tape", "_law_many"] (defScope s_law_draw):=⟨rfl,rfl,rfl,by decide +kernel,rfl,by decide +kernel,by decide +kernel⟩
theorem c_law_draw (D:Df K mg "_law_draw" s_law_draw ["_law_script", "_law_tape", "_law_many"]) (M:Mg mg t):Cal P w K mg CX0 "_law_draw" (1) ["_law_script", "_law_tape", "_law_many"] (spDraw K):=by
  refine D.ok sc_law_draw (fun vs H Q E h=>?_) (fun base f cdv A outer s H vs Q E hr h=>?_)
  · obtain ⟨a,p,ns,i,m,rfl,_⟩:=h
    rfl
  obtain ⟨a,p,ns,i,m,rfl,T,hi,hm,q⟩:=h
  have i0:=T.i0
  refine ⟨_,(pss_cons (ps_asg (pe_op op_add (pe_ix ix_list (pv 1) pe_int (fun _ _=>rfl)) pe_int) (pg_sub (pv 1) pe_int set_list))
      (pss_cons (ps_if (pt_cmpR op_le (pe_ix ix_list (pv 1) pe_int (fun _ _=>rfl)) (pe_callB call_len_seq rfl M.n_len bt_len (pa_cons (pv 0) pa_nil)) (nomark _)) (pss_one (ps_ret (pe_op op_mod (pe_ix ix_list (pv 0) (pe_op op_sub (pe_ix ix_list (pv 1) pe_int (fun _ _=>rfl)) pe_int) (fun _ _=>rfl)) (pv 2)))) pss_nil)
      (pss_cons (ps_set (i:=3) sc_law_draw.nd rfl (by first | exact Or.inl rfl | exact Or.inr rfl) (pe_callB call_len_seq rfl M.n_len bt_len (pa_cons (pv 0) pa_nil)))
      (pss_cons (ps_for PassesOwn.never rfl (pi_list (pe_slice sl_list (pv 0) po_none (po_some pe_int))) (pg_name (i:=4) sc_law_draw.nd rfl (by first | exact Or.inl rfl | exact Or.inr rfl)) (pss_one (ps_set (i:=3) sc_law_draw.nd rfl (by first | exact Or.inl rfl | exact Or.inr rfl) (pe_op op_mod (pe_op op_add (pe_op op_mul (pv 3) pe_int) (pv 4)) pe_int))))
      (pss_one (ps_ret (pe_op op_mod (pe_op op_mod (pe_op op_mul (pe_op op_add (pv 3) pe_int) (pe_op op_add (pe_op op_mul (pe_ix ix_list (pv 1) pe_int (fun _ _=>rfl)) (pe_ix ix_list (pv 1) pe_int (fun _ _=>rfl))) pe_int)) pe_int) (pv 2)))))))),?_⟩
  try dsimp only [cxK,cxK2]
  refine let5 ?_
  intro _ _ _ _ _
  refine ⟨_,rfl,p,_,_,_,rfl,rfl,SqL.of T.tape,rfl,_,_,rfl,rfl,_,rfl,p,_,_,0,rfl,rfl,T.tape,rfl,?_⟩
  have e1:(upd H p (.lst ([V.int i].set 0 (V.int (i+1))))) p=some (.lst [.int (i+1)]):=upd_same
  have x1:SameX p H (upd H p (.lst ([V.int i].set 0 (V.int (i+1))))):=SameX.upd _
  generalize upd H p (.lst ([V.int i].set 0 (V.int (i+1))))=H1 at e1 x1 ⊢
  have hS:=T.scr H1 x1
  have hl:(ns.map V.int).length=ns.length:=List.length_map _
  have hlen:=T.len
  refine ⟨_,rfl,p,_,_,_,rfl,rfl,SqL.of e1,rfl,_,rfl,a,_,rfl,.inl hS,_,_,rfl,rfl,_,rfl,?_⟩
  refine ite2 (fun c=>?_) (fun c=>?_)
  · have c:i+1≤(((ns.map V.int).length:Nat):Int):=of_decide_eq_true c
    have hk:i.toNat<ns.length:=by rw [hl] at c; omega
    have e2:(i+1-1:Int)=((i.toNat:Nat):Int):=by omega
    refine ⟨_,rfl,_,rfl,p,_,_,_,rfl,rfl,SqL.of e1,rfl,_,_,rfl,rfl,a,_,_,.int ns[i.toNat],rfl,rfl,hS,?_,_,rfl,_,_,rfl,rfl,hm,?_⟩
    · rw [e2]
      exact atI_nat (by rw [List.getElem?_map,List.getElem?_eq_getElem hk]; rfl)
    · exact q _ H1 (Int.emod_nonneg _ (by omega)) (Int.emod_lt_of_pos _ hm) x1 e1
  · refine ⟨_,rfl,a,_,rfl,.inl hS,?_⟩
    refine ⟨_,rfl,_,rfl,a,_,rfl,hS,fun p2 hp2=>?_⟩
    have s2:=same_new hp2 (.lst (cutV (ns.map V.int) none (some 4)))
    have n2:p≠p2:=ne_of_none e1 hp2
    have h2:(upd H1 p2 (.lst (cutV (ns.map V.int) none (some 4)))) p2=some (.lst (cutV (ns.map V.int) none (some 4))):=upd_same
    rw [show (4:Int)=((4:Nat):Int) from rfl,cutV_to,← List.map_take] at s2 h2 ⊢
    generalize upd H1 p2 (.lst ((ns.take 4).map V.int))=H2 at s2 h2 ⊢
    refine ⟨p2,rfl,⟨_,SqL.of h2⟩,?_⟩
    let Ifr:Nat→L2.St→Hp→Prop:=(fun j σ' H'=>∃ (z:Int) (cv:Option V),σ'=[some (.ref a),some (.ref p),some (.int m),some (.int z),cv]∧0≤z∧z<2000000∧H'=H2)
    refine for_by (ns.take 4).length Ifr ?_ ?_ ?_
    · exact ⟨_,none,rfl,by omega,by rw [hl]; omega,rfl⟩
    · rintro j σ' H' hj ⟨z,cv,rfl,z0,z1,rfl⟩
      have hj':(ns.take 4)[j]?=some (ns.take 4)[j]:=List.getElem?_eq_getElem hj
      have hw:((ns.take 4).map V.int)[j]?=some (.int (ns.take 4)[j]):=by rw [List.getElem?_map,hj']; rfl
      refine ⟨⟨_,_,SqL.of h2,hw⟩,?_⟩
      rintro x' H3 ⟨rfl,hy⟩
      have hy:=hy _ (SqL.of h2)
      rw [hw] at hy
      cases hy
      refine ⟨_,rfl,_,_,rfl,rfl,.inl ⟨by omega,by omega⟩,_,rfl,_,_,rfl,rfl,_,_,rfl,rfl,(by show (0:Int)<1000003; decide),?_⟩
      refine ⟨_,_,rfl,Int.emod_nonneg _ (by decide),?_,rfl⟩
      have:=Int.emod_lt_of_pos (z*131+(ns.take 4)[j]) (show (0:Int)<1000003 by decide)
      omega
    · rintro σ' H' ⟨z,cv,rfl,z0,z1,rfl⟩
      have e2:=s2 _ _ e1
      refine ⟨⟨_,SqL.of h2,by rw [List.length_map]; exact Nat.le_refl _⟩,?_⟩
      refine ⟨_,rfl,_,_,rfl,rfl,_,rfl,p,_,_,_,rfl,rfl,SqL.of e2,rfl,_,rfl,p,_,_,_,rfl,rfl,SqL.of e2,rfl,_,_,rfl,rfl,.inl ⟨by omega,by omega⟩,_,_,rfl,rfl,_,_,rfl,rfl,.inl ⟨by omega,by omega⟩,_,_,rfl,rfl,(by show (0:Int)<1000003; decide),_,rfl,_,_,rfl,rfl,hm,?_⟩
      exact q _ _ (Int.emod_nonneg _ (by omega)) (Int.emod_lt_of_pos _ hm) (x1.trans s2.x) e2
end K27
end
section
set_option maxHeartbeats 4000000
namespace K27
open PySem L2 L3 KM PyProof.Rows
seal L2.PE L2.PS L2.PSs L2.PT L2.PW L2.PA L2.PG L2.PGs L2.PI L2.PC L2.PO L2.PPs L2.PK L3.PIf L3.PH L3.PB
variable {P:Program} {w:World} {K:PySem.W.Frag} {mg:Str→Option Value} {base:Heap} {t:Adr}
theorem leaf_in (x:Str):inV (.str x) ((["var", "name"]:List Str).map V.str)=leafW x:=by
  rw [inV_strs]
  unfold leafW
  rw [Bool.eq_iff_iff]
  simp
theorem sc_law_kids:FnScope ["_law_thing"] ["_law_thing"] (defScope s_law_kids):=⟨rfl,rfl,rfl,by decide +kernel,rfl,by decide +kernel,by decide +kernel⟩
theorem c_law_kids (D:Df K mg "_law_kids" s_law_kids ["_law_thing"]) (M:Mg mg t):Cal P w K mg CX0 "_law_kids" (1) ["_law_thing"] spKids:=by
  refine D.ok sc_law_kids (fun vs H Q E h=>?_) (fun base f cdv A outer s H vs Q E hr h=>?_)
  · obtain ⟨x,ps,v,rfl,_⟩:=h
    rfl
  obtain ⟨x,ps,v,rfl,r,hl,q⟩:=h
  obtain ⟨a,us,rfl,ha,v0,us,rfl,⟨rfl,hx⟩,rp⟩:=r
  have hlu:=rp.length
  have ea:atI (V.str x::us) 0=some (.str x):=atI_nat (j:=0) rfl
  refine ⟨_,(pss_cons (ps_if (pt_cmpR op_in_seq (pe_ix ix_tup (pv 0) pe_int (fun _ _=>rfl)) (pe_tup (pa_cons pe_str (pa_cons pe_str pa_nil))) rfl) (pss_one (ps_ret (pe_lst pa_nil))) pss_nil)
      (pss_one (ps_ret (pe_callTy call_list_of rfl M.n_list bt_list (pa_cons (pe_slice sl_tupW (pv 0) (po_some pe_int) po_none) pa_nil))))),?_⟩
  try dsimp only [cxK,cxK2]
  refine let2 ?_
  intro _ _
  refine ⟨_,rfl,a,_,_,_,rfl,rfl,SqT.of ha,ea,(by show 2≤sizeLine; decide),fun p1 hp1=>⟨p1,(["var", "name"]:List Str).map V.str,rfl,.inr (SqT.of upd_same),rfl,rfl,_,rfl,?_⟩⟩
  have s1:=same_new hp1 (.tup [V.str "var",.str "name"])
  show if (inV (.str x) ((["var", "name"]:List Str).map V.str))=true then _ else _
  rw [leaf_in]
  generalize upd H p1 (.tup [V.str "var",.str "name"])=H1 at s1 ⊢
  refine ite2 (fun c=>?_) (fun c=>?_)
  · exact ⟨Nat.zero_le _,fun p hp=>q p [] _ (s1.free hp) (s1.trans (same_new hp _)) upd_same (by unfold kidsD; rw [if_pos c]; exact rfl)⟩
  have nk:kidsD x ps=ps:=by unfold kidsD; rw [if_neg c]
  rw [nk] at q
  have ec:cutV (V.str x::us) (some 1) none=us:=by
    have:=cutV_from (V.str x::us) 1
    simpa using this
  have h1:=s1 _ _ ha
  refine ⟨_,rfl,_,rfl,a,_,rfl,SqT.of h1,fun p hp=>?_,fun z=>?_⟩
  · rw [ec]
    refine ⟨p,us,rfl,.inr (SqT.of upd_same),fun l hl=>?_⟩
    have s2:=s1.trans ((same_new hp (.tup us)).trans (same_new hl (.lst us)))
    exact q l us _ (s1.free ((same_new hp _).free hl)) s2 upd_same (rp.mono s2)
  · rw [ec] at z
    exact absurd (congrArg List.length z) (by simp)
theorem maxN_snoc:∀ (l:List Nat) (a:Nat),maxN (l++[a])=max (maxN l) a
  | [],a=>by show max a 0=max 0 a; omega
  | b::l,a=>by
    show max b (maxN (l++[a]))=max (max b (maxN l)) a
    rw [maxN_snoc l a]
    omega
theorem bigL_snoc:∀ (ds:List D) (e:D),bigL (ds++[e])=(bigL ds || bigD e)
  | [],e=>by show (bigD e || false)=(false || bigD e); rw [Bool.or_false,Bool.false_or]
  | d::ds,e=>by rw [List.cons_append,bigL,bigL_snoc ds e,bigL,Bool.or_assoc]
theorem big_all {x:Str} {ps:List D} {k:Bool} (wf:wfG isStrD k (.tup (.str x::ps))=true) (m:Nat) (hm:m=(kidsD x ps).length):((if x = "var" then bigD (.tup (.str x::ps)) else false) || bigL ((kidsD x ps).take m))=bigD (.tup (.str x::ps)):=by
  rw [hm,List.take_length]
  by_cases hv:x = "var"
  · rw [if_pos hv]
    have:kidsD x ps=[]:=by unfold kidsD; rw [if_pos (by rw [hv]; decide +kernel)]
    rw [this]
    show (_ || false)=_
    rw [Bool.or_false]
  · rw [if_neg hv,Bool.false_or]
    by_cases hx:leafW x=true
    · have e:kidsD x ps=[]:=by unfold kidsD; rw [if_pos hx]
      rw [e]
      have key:∀ qs:List D,(∀ p∈qs,bigD p=false)→bigL qs=false:=fun qs=>by
        induction qs with
        | nil=>intro _; rfl
        | cons q qs ih=>intro h; rw [bigL,h q List.mem_cons_self,ih fun p hp=>h p (List.mem_cons_of_mem _ hp)]; rfl
      have:bigL ps=false:=key ps fun p hp=>by
        obtain ⟨i,hi,e⟩:=List.mem_iff_getElem.mp hp
        exact leaf_big wf hx hv i p (by rw [List.getElem?_eq_getElem hi,e])
      show false=(false || bigL ps)
      rw [this]
      rfl
    · have e:kidsD x ps=ps:=by unfold kidsD; rw [if_neg hx]
      rw [e]
      show bigL ps=(false || bigL ps)
      rw [Bool.false_or]
def spMeas (n:Nat):Sp:=fun vs H Q _=>∃ (d:D) (v:V),vs=[v]∧Rep H d v∧Rz d n∧∀ (q:Addr) (c:Int) (H':Hp),Same H H'→-1≤c→decide (99<c)=bigD d→H' q=some (.tup [.int (knots d:Nat),.int (depth d:Nat),.int c])→Q (.ref q) H'
theorem sc_law_measured:FnScope ["_law_thing", "_law_knots", "_law_deep_here", "_law_most", "_law_kid", "_law_told_here"] ["_law_thing"] (defScope s_law_measured):=⟨rfl,rfl,rfl,by decide +kernel,rfl,by decide +kernel,by decide +kernel⟩
theorem st_law_measured {n:Nat} (D:Df K mg "_law_measured" s_law_measured ["_law_thing"]) (M:Mg mg t) (F_law_kids:Cal P w K mg CX0 "_law_kids" (1) ["_law_thing"] spKids) (F_law_measured:Cal P w K mg CX0 "_law_measured" (n+131) ["_law_thing"] (spMeas n)):Cal P w K mg CX0 "_law_measured" (n+132) ["_law_thing"] (spMeas (n+1)):=by
  refine D.ok sc_law_measured (fun vs H Q E h=>?_) (fun base f cdv A outer s H vs Q E hr h=>?_)
  · obtain ⟨d,v,rfl,_⟩:=h
    rfl
  obtain ⟨d,v,rfl,r,rz,q⟩:=h
  have hh:=hr.hd (by omega)
  obtain ⟨x,ps,k,rfl,wf,hps⟩:=wf_ps rz.wf
  have hk4:=kids4 wf
  obtain ⟨a,us0,rfl,ha,v0,us0,rfl,⟨rfl,hx⟩,rp⟩:=id r
  have ea:atI (V.str x::us0) 0=some (.str x):=atI_nat (j:=0) rfl
  refine ⟨_,(pss_cons (ps_set (i:=1) sc_law_measured.nd rfl (by first | exact Or.inl rfl | exact Or.inr rfl) pe_int)
      (pss_cons (ps_set (i:=2) sc_law_measured.nd rfl (by first | exact Or.inl rfl | exact Or.inr rfl) pe_int)
      (pss_cons (ps_set (i:=3) sc_law_measured.nd rfl (by first | exact Or.inl rfl | exact Or.inr rfl) (pe_un un_neg pe_int))
      (pss_cut (ps_if (pt_cmpR op_eq (pe_ix ix_tup (pv 0) pe_int (fun _ _=>rfl)) pe_str (nomark _)) (pss_one (ps_set (i:=3) sc_law_measured.nd rfl (by first | exact Or.inl rfl | exact Or.inr rfl) (pe_ix ix_tup (pv 0) pe_int (fun _ _=>rfl)))) pss_nil)
      (pss_cons (ps_for PassesOwn.never rfl (pi_list (pe_fn F_law_kids (hr.mono (by omega)) rfl pass0 (pa_cons (pv 0) pa_nil))) (pg_name (i:=4) sc_law_measured.nd rfl (by first | exact Or.inl rfl | exact Or.inr rfl)) (pss_cons (ps_set (i:=5) sc_law_measured.nd rfl (by first | exact Or.inl rfl | exact Or.inr rfl) (pe_fn F_law_measured (hr.mono (by omega)) rfl pass0 (pa_cons (pv 4) pa_nil)))
      (pss_cons (ps_set (i:=1) sc_law_measured.nd rfl (by first | exact Or.inl rfl | exact Or.inr rfl) (pe_op op_add (pv 1) (pe_ix ix_tup (pv 5) pe_int (fun _ _=>rfl))))
      (pss_cons (ps_set (i:=2) sc_law_measured.nd rfl (by first | exact Or.inl rfl | exact Or.inr rfl) (pe_callB (call_max2 hh) rfl M.n_max bt_max (pa_cons (pv 2) (pa_cons (pe_ix ix_tup (pv 5) pe_int (fun _ _=>rfl)) pa_nil))))
      (pss_one (ps_set (i:=3) sc_law_measured.nd rfl (by first | exact Or.inl rfl | exact Or.inr rfl) (pe_callB (call_max2 hh) rfl M.n_max bt_max (pa_cons (pv 3) (pa_cons (pe_ix ix_tup (pv 5) pe_int (fun _ _=>rfl)) pa_nil)))))))))
      (pss_one (ps_ret (pe_tup (pa_cons (pv 1) (pa_cons (pe_op op_add (pv 2) pe_int) (pa_cons (pv 3) pa_nil))))))))))),?_⟩
  try dsimp only [cxK,cxK2]
  refine let4 ?_
  intro _ _ _ _
  refine ⟨_,rfl,fun σ' H'=>∃ c:Int,σ'=[some (.ref a),some (.int 1),some (.int 0),some (.int c),none,none]∧-1≤c∧decide (99<c)=(if x = "var" then bigD (.tup (.str x::ps)) else false)∧H'=H,?_,?_⟩
  · refine ⟨_,rfl,a,_,_,_,rfl,rfl,SqT.of ha,ea,rfl,_,rfl,?_⟩
    refine ite2 (fun c=>?_) (fun c=>⟨-1,rfl,by decide,by rw [if_neg (fun z=>c (by rw [z]; exact decide_eq_true rfl))]; rfl,rfl⟩)
    have c:V.str x=V.str "var" := of_decide_eq_true c
    cases c
    obtain ⟨sh,e1,_,e3,_,e5,_⟩:=wf_shape wf
    rw [shape_var] at e1
    cases e1
    rw [len_n] at e3 e5
    obtain ⟨p0,rfl⟩:∃ p0,ps=[p0]:=by
      cases ps with
      | nil=>simp at e5
      | cons p0 rest=>cases rest with
        | nil=>exact ⟨p0,rfl⟩
        | cons _ _=>simp at e5
    rw [wfL_cons,Bool.and_eq_true] at e3
    have hn:numD p0=true:=by simpa [dueB] using e3.1
    obtain ⟨i,rfl⟩:∃ i,p0=.int i:=by cases p0 <;> first | exact ⟨_,rfl⟩ | simp [numD] at hn
    obtain ⟨u1,us1,rfl,r1,_⟩:=rp
    cases (show u1=V.int i from r1)
    have hi:0≤i:=by simp [numD] at hn; exact hn
    exact ⟨_,rfl,a,_,_,.int i,rfl,rfl,SqT.of ha,atI_nat (j:=1) rfl,i,rfl,by omega,by rw [if_pos rfl]; simp [bigD,bigL],rfl⟩
  rintro σ' H0 ⟨c,rfl,c0,c1,rfl⟩
  refine ⟨_,rfl,x,ps,_,rfl,r,hps,fun p1 us H1 _ s1 h1 r1=>⟨p1,rfl,⟨us,SqL.of h1⟩,?_⟩⟩
  have l1:=r1.length
  have hkn:=knots_kids wf
  let Ifr:Nat→L2.St→Hp→Prop:=(fun j σ' H'=>∃ (c:Int) (kv tv:Option V),σ'=[some (.ref a),some (.int ((1+(((kidsD x ps).take j).map knots).sum:Nat):Int)),some (.int (maxN (((kidsD x ps).take j).map depth):Nat)),some (.int c),kv,tv]∧-1≤c∧decide (99<c)=((if x = "var" then bigD (.tup (.str x::ps)) else false) || bigL ((kidsD x ps).take j))∧Same H1 H')
  refine for_by us.length Ifr ?_ ?_ ?_
  · exact ⟨c,none,none,rfl,c0,by rw [c1,List.take_zero,bigL,Bool.or_false],Same.refl _⟩
  · rintro j σ' H2 hj ⟨c,kv,tv,rfl,c0,c1,s2⟩
    obtain ⟨dj,hdj⟩:∃ dj,(kidsD x ps)[j]?=some dj:=⟨_,List.getElem?_eq_getElem (by omega)⟩
    obtain ⟨uj,huj,ruj⟩:=r1.get hdj
    refine ⟨⟨us,uj,SqL.of (s2 _ _ h1),huj⟩,?_⟩
    rintro x' H3 ⟨rfl,hy⟩
    have hy:=hy us (SqL.of (s2 _ _ h1))
    rw [huj] at hy
    cases hy
    refine ⟨_,rfl,dj,uj,rfl,ruj.mono s2,rz.kid hdj,fun q3 c3 H4 s4 b0 b1 h4=>?_⟩
    have hT:=SqT.of (K:=K) h4
    refine ⟨_,rfl,_,rfl,q3,_,_,_,rfl,rfl,hT,atI_nat (j:=0) rfl,_,_,rfl,rfl,?_⟩
    refine ⟨_,rfl,_,rfl,q3,_,_,_,rfl,rfl,hT,atI_nat (j:=1) rfl,_,_,rfl,?_⟩
    refine ⟨_,rfl,_,rfl,q3,_,_,_,rfl,rfl,hT,atI_nat (j:=2) rfl,_,_,rfl,?_⟩
    refine ⟨if c3>c then c3 else c,some uj,some (.ref q3),?_,?_,?_,s2.trans s4⟩
    rotate_left
    · show -1≤(if c3>c then c3 else c)
      split <;> omega
    · show decide (99<(if c3>c then c3 else c))=_
      rw [take_snoc hdj,bigL_snoc,← Bool.or_assoc,← c1,← b1]
      by_cases h1:c3>c
      · rw [if_pos h1]
        by_cases h2:99<c3
        · rw [decide_eq_true h2,Bool.or_true]
        · rw [decide_eq_false h2,decide_eq_false (by omega)]; rfl
      · rw [if_neg h1]
        by_cases h2:99<c
        · rw [decide_eq_true h2,Bool.true_or]
        · rw [decide_eq_false h2,decide_eq_false (by omega)]; rfl
    · rw [take_snoc hdj,List.map_append,List.map_append,List.sum_append,List.map_singleton,List.map_singleton,maxN_snoc,List.sum_singleton]
      have e1:((1+(((kidsD x ps).take j).map knots).sum:Nat):Int)+((knots dj:Nat):Int)=((1+((((kidsD x ps).take j).map knots).sum+knots dj):Nat):Int):=by omega
      have e2:(if ((depth dj:Nat):Int)>((maxN (((kidsD x ps).take j).map depth):Nat):Int) then ((depth dj:Nat):Int) else ((maxN (((kidsD x ps).take j).map depth):Nat):Int))=((max (maxN (((kidsD x ps).take j).map depth)) (depth dj):Nat):Int):=by
        split <;> omega
      rw [← e1,← e2]
      rfl
  · rintro σ' H2 ⟨c,kv,tv,rfl,c0,c1,s2⟩
    refine ⟨⟨us,SqL.of (s2 _ _ h1),Nat.le_refl _⟩,?_⟩
    refine ⟨_,rfl,_,rfl,_,_,rfl,rfl,_,rfl,(by show 3≤sizeLine; decide),fun q4 hq4=>?_⟩
    refine q q4 c _ (s1.trans (s2.trans (same_new hq4 _))) c0 (c1.trans (big_all wf us.length l1)) ?_
    rw [hkn.1,hkn.2]
    rw [l1,List.take_length]
    have e2:((maxN ((kidsD x ps).map depth):Nat):Int)+1=((1+maxN ((kidsD x ps).map depth):Nat):Int):=by omega
    rw [← e2]
    exact upd_same
theorem c_law_measured (D:Df K mg "_law_measured" s_law_measured ["_law_thing"]) (M:Mg mg t) (F_law_kids:Cal P w K mg CX0 "_law_kids" (1) ["_law_thing"] spKids):∀ n:Nat,Cal P w K mg CX0 "_law_measured" (n+131) ["_law_thing"] (spMeas n)
  | 0=>Cal.never D fun vs H Q E ⟨d,v,_,_,h,_⟩=>absurd h.dp (Nat.not_lt_zero _)
  | n+1=>st_law_measured D M F_law_kids (c_law_measured D M F_law_kids n)
def spGreat (n:Nat):Sp:=fun vs H Q _=>∃ (d:D) (v:V),vs=[v]∧Rep H d v∧Rz d n∧∀ H',Same H H'→Q (.bl (greatD d)) H'
theorem sc_law_great:FnScope ["_law_thing", "_law_told_here"] ["_law_thing"] (defScope s_law_great):=⟨rfl,rfl,rfl,by decide +kernel,rfl,by decide +kernel,by decide +kernel⟩
theorem c_law_great {n:Nat} (D:Df K mg "_law_great" s_law_great ["_law_thing"]) (M:Mg mg t) (F_law_measured:Cal P w K mg CX0 "_law_measured" (n+131) ["_law_thing"] (spMeas n)):Cal P w K mg CX0 "_law_great" (n+132) ["_law_thing"] (spGreat n):=by
  refine D.ok sc_law_great (fun vs H Q E h=>?_) (fun base f cdv A outer s H vs Q E hr h=>?_)
  · obtain ⟨d,v,rfl,_⟩:=h
    rfl
  obtain ⟨d,v,rfl,r,rz,q⟩:=h
  refine ⟨_,(pss_cons (ps_set (i:=1) sc_law_great.nd rfl (by first | exact Or.inl rfl | exact Or.inr rfl) (pe_fn F_law_measured (hr.mono (by omega)) rfl pass0 (pa_cons (pv 0) pa_nil)))
      (pss_one (ps_ret (pe_or (pe_cmpR op_gt (pe_ix ix_tup (pv 1) pe_int (fun _ _=>rfl)) pe_int (nomark _)) (pe_or (pe_cmpR op_gt (pe_ix ix_tup (pv 1) pe_int (fun _ _=>rfl)) pe_int (nomark _)) (pe_one (pe_cmpR op_gt (pe_ix ix_tup (pv 1) pe_int (fun _ _=>rfl)) pe_int (nomark _)))))))),?_⟩
  try dsimp only [cxK,cxK2]
  refine let2 ?_
  intro _ _
  refine ⟨_,rfl,d,v,rfl,r,rz,fun p c H1 s1 c0 c1 h1=>?_⟩
  have hT:=SqT.of (K:=K) h1
  have qq:=q H1 s1
  refine ⟨_,rfl,p,_,_,_,rfl,rfl,hT,atI_nat (j:=0) rfl,_,_,rfl,rfl,_,rfl,?_⟩
  refine ite2 (fun c=>?_) (fun c=>?_)
  · have c:(600:Int)<((knots d:Nat):Int):=of_decide_eq_true c
    have e:vastD d=true:=by unfold vastD; simp; omega
    have e:greatD d=true:=by show (vastD d || bigD d)=true; rw [e]; rfl
    rw [e] at qq
    exact qq
  have c:¬ (600:Int)<((knots d:Nat):Int):=of_decide_eq_false (Bool.eq_false_iff.mpr c)
  refine ⟨_,rfl,p,_,_,_,rfl,rfl,hT,atI_nat (j:=1) rfl,_,_,rfl,rfl,_,rfl,?_⟩
  refine ite2 (fun c2=>?_) (fun c2=>?_)
  · have c2:(40:Int)<((depth d:Nat):Int):=of_decide_eq_true c2
    have e:vastD d=true:=by unfold vastD; simp; omega
    have e:greatD d=true:=by show (vastD d || bigD d)=true; rw [e]; rfl
    rw [e] at qq
    exact qq
  have c2:¬ (40:Int)<((depth d:Nat):Int):=of_decide_eq_false (Bool.eq_false_iff.mpr c2)
  have e:vastD d=false:=by unfold vastD; simp; omega
  have e:greatD d=bigD d:=by show (vastD d || bigD d)=_; rw [e]; rfl
  rw [e,← c1] at qq
  exact ⟨_,rfl,p,_,_,_,rfl,rfl,hT,atI_nat (j:=2) rfl,_,_,rfl,rfl,qq⟩
end K27
end
section
set_option maxHeartbeats 4000000
namespace K27
open PySem L2 L3 KM PyProof.Rows
seal L2.PE L2.PS L2.PSs L2.PT L2.PW L2.PA L2.PG L2.PGs L2.PI L2.PC L2.PO L2.PPs L2.PK L3.PIf L3.PH L3.PB
variable {P:Program} {w:World} {K:PySem.W.Frag} {mg:Str→Option Value} {base:Heap} {t:Adr}
theorem bdI_le (x:Str) (i:Nat):bdI x i≤1:=by unfold bdI; split <;> decide
theorem bd_one {x:Str} (h:overV x=.int 1) (i:Nat):bdI x i=if i=1 then 1 else 0:=by
  unfold bdI
  rw [h]
  by_cases hi:i=1
  · rw [if_pos hi,hi]; rfl
  · rw [if_neg hi,if_neg]
    intro z
    have:=of_decide_eq_true z
    injection this with this
    omega
theorem bd_zero {x:Str} (h:overV x=.int 0) (i:Nat):bdI x i=if i=0 then 1 else 0:=by
  unfold bdI
  rw [h]
  by_cases hi:i=0
  · rw [if_pos hi,hi]; rfl
  · rw [if_neg hi,if_neg]
    intro z
    have:=of_decide_eq_true z
    injection this with this
    omega
theorem bd_non {x:Str} (h1:x∉(["all", "some", "fun"]:List Str)) (h2:x∉(["rec", "carry"]:List Str)) (i:Nat):bdI x i=0:=by
  have e:overV x=.non:=by
    unfold overV
    simp only [List.mem_cons,List.not_mem_nil,or_false,not_or] at h1 h2
    have:KTD.datumAt x BO=none:=by
      simp only [BO,KTD.datumAt]
      rw [if_neg (by simp; exact h1.1),if_neg (by simp; exact h1.2.1),if_neg (by simp; exact h1.2.2),if_neg (by simp; exact h2.1),if_neg (by simp; exact h2.2)]
    rw [this]
    rfl
  unfold bdI
  rw [e,if_neg]
  intro z
  have:=of_decide_eq_true z
  cases this
theorem in_strs (x:Str) (l:List Str):inV (.str x) (l.map V.str)=decide (x∈l):=inV_strs x l
def spOvr:Sp:=fun vs H Q _=>∃ (x:Str) (ps:List D) (v:V) (i:Nat),vs=[v,.int (i:Nat)]∧Rep H (.tup (.str x::ps)) v∧∀ H',Same H H'→Q (.int (bdI x i)) H'
theorem sc_law_over:FnScope ["_law_thing", "_law_number"] ["_law_thing", "_law_number"] (defScope s_law_over):=⟨rfl,rfl,rfl,by decide +kernel,rfl,by decide +kernel,by decide +kernel⟩
theorem c_law_ovr (D:Df K mg "_law_over" s_law_over ["_law_thing", "_law_number"]) (M:Mg mg t):Cal P w K mg CX0 "_law_over" (1) ["_law_thing", "_law_number"] spOvr:=by
  refine D.ok sc_law_over (fun vs H Q E h=>?_) (fun base f cdv A outer s H vs Q E hr h=>?_)
  · obtain ⟨x,ps,v,i,rfl,_⟩:=h
    rfl
  obtain ⟨x,ps,v,i,rfl,r,q⟩:=h
  obtain ⟨a,us,rfl,ha,v0,us,rfl,⟨rfl,hx⟩,rp⟩:=r
  have ea:atI (V.str x::us) 0=some (.str x):=atI_nat (j:=0) rfl
  refine ⟨_,(pss_cons (ps_if (pt_cmpR op_in_seq (pe_ix ix_tup (pv 0) pe_int (fun _ _=>rfl)) (pe_tup (pa_cons pe_str (pa_cons pe_str (pa_cons pe_str pa_nil)))) rfl) (pss_one (ps_ret (pe_callTy call_int1 rfl M.n_int bt_int (pa_cons (pe_cmpR op_eq (pv 1) pe_int (nomark _)) pa_nil)))) pss_nil)
      (pss_one (ps_ret (pe_callTy call_int1 rfl M.n_int bt_int (pa_cons (pe_and (pe_cmpR op_in_seq (pe_ix ix_tup (pv 0) pe_int (fun _ _=>rfl)) (pe_tup (pa_cons pe_str (pa_cons pe_str pa_nil))) rfl) (pe_one (pe_cmpR op_eq (pv 1) pe_int (nomark _)))) pa_nil))))),?_⟩
  try dsimp only [cxK,cxK2]
  refine let2 ?_
  intro _ _
  refine ⟨_,rfl,a,_,_,_,rfl,rfl,SqT.of ha,ea,(by show 3≤sizeLine; decide),fun p1 hp1=>⟨p1,(["all", "some", "fun"]:List Str).map V.str,rfl,.inr (SqT.of upd_same),rfl,rfl,_,rfl,?_⟩⟩
  have s1:=same_new hp1 (.tup ((["all", "some", "fun"]:List Str).map V.str))
  show if (inV (.str x) ((["all", "some", "fun"]:List Str).map V.str))=true then _ else _
  rw [in_strs]
  have hi:∀ k:Nat,decide (V.int ((i:Nat):Int)=V.int ((k:Nat):Int))=decide (i=k):=fun k=>by
    by_cases h:i=k
    · rw [h]; simp
    · rw [decide_eq_false h]
      exact decide_eq_false fun z=>h (by injection z with z; omega)
  refine ite2 (fun c=>?_) (fun c=>?_)
  · have c:=of_decide_eq_true c
    have o:overV x=.int 1:=by
      simp only [List.mem_cons,List.not_mem_nil,or_false] at c
      rcases c with rfl | rfl | rfl <;> kernel_rfl
    have qq:=q _ s1
    rw [bd_one o] at qq
    refine ⟨_,rfl,rfl,.inr ⟨_,rfl,?_⟩⟩
    have:=hi 1
    show Q (.int (if decide (V.int ((i:Nat):Int)=V.int ((1:Nat):Int))=true then 1 else 0)) _
    rw [this]
    by_cases h:i=1
    · rw [if_pos h] at qq; rw [decide_eq_true h]; exact qq
    · rw [if_neg h] at qq; rw [decide_eq_false h]; exact qq
  have c:x∉(["all", "some", "fun"]:List Str):=fun z=>c (decide_eq_true z)
  have ha1:=s1 _ _ ha
  refine ⟨_,rfl,a,_,_,_,rfl,rfl,SqT.of ha1,ea,(by show 2≤sizeLine; decide),fun p2 hp2=>⟨p2,(["rec", "carry"]:List Str).map V.str,rfl,.inr (SqT.of upd_same),rfl,rfl,_,rfl,?_⟩⟩
  have s2:=s1.trans (same_new hp2 (.tup ((["rec", "carry"]:List Str).map V.str)))
  have qq:=q _ s2
  show if (inV (.str x) ((["rec", "carry"]:List Str).map V.str))=true then _ else _
  rw [in_strs]
  refine ite2 (fun c2=>?_) (fun c2=>?_)
  · have c2:=of_decide_eq_true c2
    have o:overV x=.int 0:=by
      simp only [List.mem_cons,List.not_mem_nil,or_false] at c2
      rcases c2 with rfl | rfl <;> kernel_rfl
    rw [bd_zero o] at qq
    refine ⟨_,rfl,rfl,.inr ⟨_,rfl,?_⟩⟩
    have:=hi 0
    show Q (.int (if decide (V.int ((i:Nat):Int)=V.int ((0:Nat):Int))=true then 1 else 0)) _
    rw [this]
    by_cases h:i=0
    · rw [if_pos h] at qq; rw [decide_eq_true h]; exact qq
    · rw [if_neg h] at qq; rw [decide_eq_false h]; exact qq
  · have c2:x∉(["rec", "carry"]:List Str):=fun z=>c2 (decide_eq_true z)
    rw [bd_non c c2] at qq
    exact .inr ⟨_,rfl,qq⟩
def spMoved (n:Nat):Sp:=fun vs H Q _=>∃ (d:D) (v:V) (by_ low:Int),vs=[v,.int by_,.int low]∧Rep H d v∧Wf d∧depth d<n∧0≤by_∧by_≤1000∧∀ (u:V) (H':Hp),Same H H'→Rep H' (movD by_ n low d) u→Q u H'
theorem sc_law_moved:FnScope ["_law_thing", "_law_by", "_law_low", "_law_kids_here"] ["_law_thing", "_law_by", "_law_low"] (defScope s_law_moved):=⟨rfl,rfl,rfl,by decide +kernel,rfl,by decide +kernel,by decide +kernel⟩
theorem st_law_moved {n:Nat} (D:Df K mg "_law_moved" s_law_moved ["_law_thing", "_law_by", "_law_low"]) (M:Mg mg t) (F_law_kids:Cal P w K mg CX0 "_law_kids" (1) ["_law_thing"] spKids) (F_law_over:Cal P w K mg CX0 "_law_over" (1) ["_law_thing", "_law_number"] spOvr) (F_law_moved:Cal P w K mg CX0 "_law_moved" (n+4) ["_law_thing", "_law_by", "_law_low"] (spMoved n)):Cal P w K mg CX0 "_law_moved" (n+5) ["_law_thing", "_law_by", "_law_low"] (spMoved (n+1)):=by
  refine D.ok sc_law_moved (fun vs H Q E h=>?_) (fun base f cdv A outer s H vs Q E hr h=>?_)
  · obtain ⟨d,v,by_,low,rfl,_⟩:=h
    rfl
  obtain ⟨d,v,by_,low,rfl,r,wfd,hd,b0,b1,q⟩:=h
  have hu:=hu_of hr
  obtain ⟨x,ps,k,rfl,wf,hps⟩:=wf_ps wfd
  have hk4:=kids4 wf
  obtain ⟨a,us0,rfl,ha,v0,us0,rfl,⟨rfl,hx⟩,rp⟩:=id r
  have ea:atI (V.str x::us0) 0=some (.str x):=atI_nat (j:=0) rfl
  refine ⟨_,(pss_cons (ps_if (pt_cmpR op_eq (pe_ix ix_tup (pv 0) pe_int (fun _ _=>rfl)) pe_str (nomark _)) (pss_one (ps_ret (pe_tup (pa_cons pe_str (pa_cons (pe_op op_add (pe_ix ix_tup (pv 0) pe_int (fun _ _=>rfl)) (pe_op op_mul (pv 1) (pe_callTy call_int1 rfl M.n_int bt_int (pa_cons (pe_cmpR op_ge (pe_ix ix_tup (pv 0) pe_int (fun _ _=>rfl)) (pv 2) (nomark _)) pa_nil)))) pa_nil))))) pss_nil)
      (pss_cons (ps_set (i:=3) sc_law_moved.nd rfl (by first | exact Or.inl rfl | exact Or.inr rfl) (pe_fn F_law_kids (hr.mono (by omega)) rfl pass0 (pa_cons (pv 0) pa_nil)))
      (pss_cons (ps_if (pt_cmpR (op_eqNil hu) (pv 3) (pe_lst pa_nil) (nomark _)) (pss_one (ps_ret (pv 0))) pss_nil)
      (pss_one (ps_ret (pe_op op_catU (pe_tup (pa_cons (pe_ix ix_tup (pv 0) pe_int (fun _ _=>rfl)) pa_nil)) (pe_callTy call_tuple_of rfl M.n_tuple bt_tuple (pa_cons (pe_comp (N':=["_law_k", "_law_by", "_law_kids_here", "_law_low", "_law_thing"]) (own:=1) (fr:=[1,3,2,0]) rfl (blk_of (N:=["_law_thing", "_law_by", "_law_low", "_law_kids_here"]) (sc:=defScope s_law_moved) rfl rfl rfl (by decide +kernel)) (pi_range1 rfl M.n_range (pa_cons (pe_callB call_len_seq rfl M.n_len bt_len (pa_cons (pv 3) pa_nil)) pa_nil)) (own_name (by decide)) (fun _ _ _=>(pg_name (i:=0) (show List.Nodup (["_law_k", "_law_by", "_law_kids_here", "_law_low", "_law_thing"]:List Str) by decide +kernel) rfl (Or.inl rfl))) (fun _ _ _=>pif_nil) (fun _ _ _=>(pe_fn F_law_moved (hr.mono (by omega)) rfl pass0 (pa_cons (pe_ix (ix_listK (K:=K)) (pv 2) (pv 0) (fun _ _=>rfl)) (pa_cons (pv 1) (pa_cons (pe_op op_add (pv 3) (pe_fn F_law_over (hr.mono (by omega)) rfl pass0 (pa_cons (pv 4) (pa_cons (pv 0) pa_nil)))) pa_nil)))))) pa_nil)))))))),?_⟩
  try dsimp only [cxK,cxK2]
  refine let4 ?_
  intro _ _ _ _
  refine ⟨_,rfl,a,_,_,_,rfl,rfl,SqT.of ha,ea,rfl,_,rfl,?_⟩
  refine ite2 (fun c=>?_) (fun c=>?_)
  · have c:V.str x=V.str "var" := of_decide_eq_true c
    cases c
    obtain ⟨i,rfl,h0,rfl⟩:=wf_varD wf
    obtain ⟨u1,us1,rfl,r1,_⟩:=rp
    cases (show u1=V.int i from r1)
    have e:movD by_ (n+1) low (.tup [.str "var",.int i])=.tup [.str "var",.int (i+by_*(if low≤i then 1 else 0))]:=by rw [movD,if_pos rfl]
    rw [e] at q
    refine ⟨_,rfl,a,_,_,.int i,rfl,rfl,SqT.of ha,atI_nat (j:=1) rfl,_,rfl,_,rfl,a,_,_,.int i,rfl,rfl,SqT.of ha,atI_nat (j:=1) rfl,_,rfl,_,_,rfl,rfl,.inr ⟨_,rfl,?_⟩⟩
    have fin:∀ z:Int,z=(if low≤i then 1 else 0)→∀ p,H p=none→Q (.ref p) (upd H p (.tup [.str "var",.int (i+by_*z)])):=fun z hz p hp=>by
      refine q _ _ (same_new hp _) ?_
      rw [← hz]
      exact rep_new hp (rs rw_ (rs ri r0))
    by_cases c:low≤i
    · rw [decide_eq_true c]
      exact ⟨_,_,rfl,rfl,.inl ⟨by omega,by omega⟩,_,_,rfl,rfl,(by show 2≤sizeLine; decide),fin 1 (by rw [if_pos c])⟩
    · rw [decide_eq_false c]
      exact ⟨_,_,rfl,rfl,.inl ⟨by omega,by omega⟩,_,_,rfl,rfl,(by show 2≤sizeLine; decide),fin 0 (by rw [if_neg c])⟩
  have hv:x ≠ "var" := fun z=>c (by rw [z]; exact decide_eq_true rfl)
  have e:movD by_ (n+1) low (.tup (.str x::ps))=rebuiltD x ps ((List.range (kidsD x ps).length).map fun i=>movD by_ n (low+bdI x i) (((kidsD x ps)[i]?).getD .non)):=by
    conv=>lhs; unfold movD
    exact if_neg hv
  rw [e] at q
  refine ⟨_,rfl,x,ps,_,rfl,r,hps,fun p1 us H1 _ s1 h1 r1=>?_⟩
  have l1:=r1.length
  refine ⟨_,rfl,(by show 0≤sizeLine; decide),fun p2 hp2=>?_⟩
  have s2:=same_new hp2 (.lst [])
  have hp2':(upd H1 p2 (.lst [])) p2=some (.lst []):=upd_same
  have h1':=s2 _ _ h1
  generalize upd H1 p2 (.lst [])=H2 at s2 hp2' h1' ⊢
  refine ⟨p1,p2,us,rfl,rfl,SqL.of h1',SqL.of hp2',_,rfl,?_⟩
  have s12:=s1.trans s2
  refine ite2 (fun c=>?_) (fun c=>?_)
  · have hn:us=[]:=of_decide_eq_true c
    have hk:kidsD x ps=[]:=List.length_eq_zero_iff.mp (by rw [← l1,hn]; rfl)
    rw [hk] at q
    exact ⟨_,rfl,q _ H2 s12 (by
      unfold rebuiltD
      show Rep H2 (if ([]:List KM.D)=[] then _ else _) _
      rw [if_pos rfl]
      exact r.mono s12)⟩
  have hne:us≠[]:=fun z=>c (decide_eq_true z)
  refine ⟨_,rfl,a,_,_,_,rfl,rfl,SqT.of (s12 _ _ ha),ea,(by show 1≤sizeLine; decide),fun p3 hp3=>?_⟩
  have s3:=same_new hp3 (.tup [V.str x])
  have s13:=s12.trans s3
  have h13:=s3 _ _ h1'
  have r13:=r1.mono (s2.trans s3)
  have hp33:(upd H2 p3 (.tup [V.str x])) p3=some (.tup [V.str x]):=upd_same
  generalize upd H2 p3 (.tup [V.str x])=H3 at s3 s13 h13 r13 hp33 ⊢
  refine ⟨_,rfl,p1,us,rfl,.inl (SqL.of h13),_,rfl,(by show -(2 ^ 62)≤((us.length:Nat):Int); omega),(by show ((us.length:Nat):Int)<2 ^ 62; omega),fun p4 hp4=>?_⟩
  refine comp_reps us.length (fun i=>movD by_ n (low+bdI x i) (((kidsD x ps)[i]?).getD .non)) hp4 (by rw [l1]; exact Nat.le_trans hk4 (by decide)) (fun i H4 hi s4=>⟨hi,?_⟩) fun acc H4 s4 h4 r4=>⟨Nat.le_refl _,?_⟩
  · rintro x' H5 ⟨rfl,rfl⟩ R hR
    have e0:(0:Int)+(i:Int)=((i:Nat):Int):=by omega
    rw [e0]
    obtain ⟨di,hdi⟩:∃ di,(kidsD x ps)[i]?=some di:=⟨_,List.getElem?_eq_getElem (by omega)⟩
    obtain ⟨ui,hui,rui⟩:=r13.get hdi
    obtain ⟨w1,w2⟩:=wf_kid wf hdi
    rw [hdi] at hR
    refine ⟨_,rfl,_,rfl,p1,us,_,ui,rfl,rfl,SqL.of (s4 _ _ h13),atI_nat hui,_,rfl,_,rfl,_,rfl,_,rfl,x,ps,_,i,rfl,r.mono (s13.trans s4),fun H5 s5=>?_⟩
    exact ⟨_,_,rfl,rfl,di,ui,by_,low+bdI x i,rfl,rui.mono (s4.trans s5),w1,by omega,b0,b1,fun u H6 s6 r6=>hR u H6 (s5.trans s6) r6⟩
  · have la:acc.length=us.length:=by rw [r4.length,List.length_map,List.length_range]
    refine ⟨p4,acc,rfl,.inl ⟨SqL.of h4,fun p5 hp5=>?_⟩⟩
    have s5:=same_new hp5 (.tup acc)
    refine ⟨p3,p5,_,_,rfl,rfl,s5 _ _ (s4 _ _ hp33),upd_same,?_,fun p6 H6 s6 h6=>?_⟩
    · rw [List.length_singleton,show sizeLine=16777216 by decide]; omega
    · have sa:=s13.trans (s4.trans (s5.trans s6))
      refine q _ H6 sa ?_
      unfold rebuiltD
      rw [if_neg (fun z=>hne (List.length_eq_zero_iff.mp (by have:=congrArg List.length z; rw [List.length_map,List.length_range] at this; simpa [l1] using this)))]
      rw [← l1]
      exact ⟨p6,_,rfl,h6,_,_,rfl,⟨rfl,hx⟩,r4.mono (s5.trans s6)⟩
theorem c_law_moved (D:Df K mg "_law_moved" s_law_moved ["_law_thing", "_law_by", "_law_low"]) (M:Mg mg t) (F_law_kids:Cal P w K mg CX0 "_law_kids" (1) ["_law_thing"] spKids) (F_law_over:Cal P w K mg CX0 "_law_over" (1) ["_law_thing", "_law_number"] spOvr):∀ n:Nat,Cal P w K mg CX0 "_law_moved" (n+4) ["_law_thing", "_law_by", "_law_low"] (spMoved n)
  | 0=>Cal.never D fun vs H Q E ⟨d,v,by_,low,_,_,_,h,_⟩=>absurd h (Nat.not_lt_zero _)
  | n+1=>st_law_moved D M F_law_kids F_law_over (c_law_moved D M F_law_kids F_law_over n)
end K27
end
section
set_option maxHeartbeats 4000000
namespace K27
open PySem L2 L3 KM PyProof.Rows
seal L2.PE L2.PS L2.PSs L2.PT L2.PW L2.PA L2.PG L2.PGs L2.PI L2.PC L2.PO L2.PPs L2.PK L3.PIf L3.PH L3.PB
variable {P:Program} {w:World} {K:PySem.W.Frag} {mg:Str→Option Value} {base:Heap} {t:Adr}
def spPlaced (n:Nat):Sp:=fun vs H Q _=>∃ (d o:D) (v w0:V) (at_ ov:Int),at_=0∧vs=[v,w0,.int ov]∧Rep H d v∧Rep H o w0∧Wf d∧Wf o∧depth d<n∧depth o<58∧0≤ov∧ov+n≤1000∧∀ (u:V) (H':Hp),Same H H'→Rep H' (plcD o at_ n ov d) u→Q u H'
theorem sc_law_put:FnScope ["_law_thing", "_law_other", "_law_over_here", "_law_kids_here"] ["_law_thing", "_law_other", "_law_over_here"] (defScope s_law_put):=⟨rfl,rfl,rfl,by decide +kernel,rfl,by decide +kernel,by decide +kernel⟩
theorem st_law_put {n:Nat} (D:Df K mg "_law_put" s_law_put ["_law_thing", "_law_other", "_law_over_here"]) (M:Mg mg t) (F_law_kids:Cal P w K mg CX0 "_law_kids" (1) ["_law_thing"] spKids) (F_law_over:Cal P w K mg CX0 "_law_over" (1) ["_law_thing", "_law_number"] spOvr) (F_law_moved:Cal P w K mg CX0 "_law_moved" (62) ["_law_thing", "_law_by", "_law_low"] (spMoved 58)) (F_law_put:Cal P w K mg CX0 "_law_put" (n+63) ["_law_thing", "_law_other", "_law_over_here"] (spPlaced n)):Cal P w K mg CX0 "_law_put" (n+64) ["_law_thing", "_law_other", "_law_over_here"] (spPlaced (n+1)):=by
  refine D.ok sc_law_put (fun vs H Q E h=>?_) (fun base f cdv A outer s H vs Q E hr h=>?_)
  · obtain ⟨d,o,v,w0,at_,ov,rfl,rfl,_⟩:=h
    rfl
  obtain ⟨d,o,v,w0,at_,ov,hat,rfl,r,ro,wfd,wo,hd,ho,ov0,ov1,q⟩:=h
  have hu:=hu_of hr
  obtain ⟨x,ps,k,rfl,wf,hps⟩:=wf_ps wfd
  have hk4:=kids4 wf
  obtain ⟨a,us0,rfl,ha,v0,us0,rfl,⟨rfl,hx⟩,rp⟩:=id r
  have ea:atI (V.str x::us0) 0=some (.str x):=atI_nat (j:=0) rfl
  refine ⟨_,(pss_cons (ps_if (L2.PW.pt (pw_and (pt_cmpR op_eq (pe_ix ix_tup (pv 0) pe_int (fun _ _=>rfl)) pe_str (nomark _)) (pw_and1 (pt_cmpR op_eq (pe_ix ix_tup (pv 0) pe_int (fun _ _=>rfl)) (pv 2) (nomark _))))) (pss_one (ps_ret (pe_fn F_law_moved (hr.mono (by omega)) rfl pass0 (pa_cons (pv 1) (pa_cons (pv 2) (pa_cons pe_int pa_nil)))))) pss_nil)
      (pss_cons (ps_if (pt_cmpR op_eq (pe_ix ix_tup (pv 0) pe_int (fun _ _=>rfl)) pe_str (nomark _)) (pss_one (ps_ret (pe_tup (pa_cons pe_str (pa_cons (pe_op op_sub (pe_ix ix_tup (pv 0) pe_int (fun _ _=>rfl)) (pe_callTy call_int1 rfl M.n_int bt_int (pa_cons (pe_cmpR op_gt (pe_ix ix_tup (pv 0) pe_int (fun _ _=>rfl)) (pv 2) (nomark _)) pa_nil))) pa_nil))))) pss_nil)
      (pss_cons (ps_set (i:=3) sc_law_put.nd rfl (by first | exact Or.inl rfl | exact Or.inr rfl) (pe_fn F_law_kids (hr.mono (by omega)) rfl pass0 (pa_cons (pv 0) pa_nil)))
      (pss_cons (ps_if (pt_cmpR (op_eqNil hu) (pv 3) (pe_lst pa_nil) (nomark _)) (pss_one (ps_ret (pv 0))) pss_nil)
      (pss_one (ps_ret (pe_op op_catU (pe_tup (pa_cons (pe_ix ix_tup (pv 0) pe_int (fun _ _=>rfl)) pa_nil)) (pe_callTy call_tuple_of rfl M.n_tuple bt_tuple (pa_cons (pe_comp (N':=["_law_k", "_law_other", "_law_kids_here", "_law_over_here", "_law_thing"]) (own:=1) (fr:=[1,3,2,0]) rfl (blk_of (N:=["_law_thing", "_law_other", "_law_over_here", "_law_kids_here"]) (sc:=defScope s_law_put) rfl rfl rfl (by decide +kernel)) (pi_range1 rfl M.n_range (pa_cons (pe_callB call_len_seq rfl M.n_len bt_len (pa_cons (pv 3) pa_nil)) pa_nil)) (own_name (by decide)) (fun _ _ _=>(pg_name (i:=0) (show List.Nodup (["_law_k", "_law_other", "_law_kids_here", "_law_over_here", "_law_thing"]:List Str) by decide +kernel) rfl (Or.inl rfl))) (fun _ _ _=>pif_nil) (fun _ _ _=>(pe_fn F_law_put (hr.mono (by omega)) rfl pass0 (pa_cons (pe_ix (ix_listK (K:=K)) (pv 2) (pv 0) (fun _ _=>rfl)) (pa_cons (pv 1) (pa_cons (pe_op op_add (pv 3) (pe_fn F_law_over (hr.mono (by omega)) rfl pass0 (pa_cons (pv 4) (pa_cons (pv 0) pa_nil)))) pa_nil)))))) pa_nil))))))))),?_⟩
  try dsimp only [cxK,cxK2]
  refine let5 ?_
  intro _ _ _ _ _
  by_cases hv:x = "var"
  · subst hv
    obtain ⟨i,rfl,h0,rfl⟩:=wf_varD wf
    obtain ⟨u1,us1,rfl,r1,_⟩:=rp
    cases (show u1=V.int i from r1)
    have e:plcD o at_ (n+1) ov (.tup [.str "var",.int i])=if i=at_+ov then movD ov 58 0 o else .tup [.str "var",.int (i-(if at_+ov<i then 1 else 0))]:=by rw [plcD,if_pos rfl]
    rw [e,hat,Int.zero_add] at q
    refine ⟨_,rfl,a,_,_,_,rfl,rfl,SqT.of ha,ea,rfl,_,rfl,ite2 (fun _=>?_) (fun c=>absurd (decide_eq_true rfl) c)⟩
    refine ⟨_,rfl,a,_,_,.int i,rfl,rfl,SqT.of ha,atI_nat (j:=1) rfl,_,rfl,rfl,_,rfl,?_⟩
    refine ite2 (fun c=>?_) (fun c=>?_)
    · have c:i=ov:=by
        have:V.int i=V.int ov:=of_decide_eq_true c
        injection this
      rw [if_pos c] at q
      exact ⟨_,rfl,_,rfl,o,w0,ov,0,rfl,ro,wo,ho,ov0,by omega,q⟩
    have c:¬ i=ov:=fun z=>c (by rw [z]; exact decide_eq_true rfl)
    rw [if_neg c] at q
    refine ⟨_,rfl,a,_,_,_,rfl,rfl,SqT.of ha,ea,rfl,_,rfl,ite2 (fun _=>?_) (fun c=>absurd (decide_eq_true rfl) c)⟩
    refine ⟨_,rfl,a,_,_,.int i,rfl,rfl,SqT.of ha,atI_nat (j:=1) rfl,_,rfl,a,_,_,.int i,rfl,rfl,SqT.of ha,atI_nat (j:=1) rfl,_,rfl,_,_,rfl,rfl,.inr ⟨_,rfl,?_⟩⟩
    have fin:∀ z:Int,z=(if ov<i then 1 else 0)→∀ p,H p=none→Q (.ref p) (upd H p (.tup [.str "var",.int (i-z)])):=fun z hz p hp=>by
      refine q _ _ (same_new hp _) ?_
      rw [← hz]
      exact rep_new hp (rs rw_ (rs ri r0))
    by_cases c:ov<i
    · rw [decide_eq_true c]
      exact ⟨_,_,rfl,rfl,(by show 2≤sizeLine; decide),fin 1 (by rw [if_pos c])⟩
    · rw [decide_eq_false c]
      exact ⟨_,_,rfl,rfl,(by show 2≤sizeLine; decide),fin 0 (by rw [if_neg c])⟩
  have hvv:¬ decide (V.str x=V.str "var")=true:=fun c=>hv (by have:=of_decide_eq_true c; injection this)
  refine ⟨_,rfl,a,_,_,_,rfl,rfl,SqT.of ha,ea,rfl,_,rfl,ite2 (fun c=>absurd c hvv) (fun _=>iteF ?_)⟩
  refine ⟨_,rfl,a,_,_,_,rfl,rfl,SqT.of ha,ea,rfl,_,rfl,ite2 (fun c=>absurd c hvv) (fun _=>?_)⟩
  have e:plcD o at_ (n+1) ov (.tup (.str x::ps))=rebuiltD x ps ((List.range (kidsD x ps).length).map fun i=>plcD o at_ n (ov+bdI x i) (((kidsD x ps)[i]?).getD .non)):=by
    conv=>lhs; unfold plcD
    exact if_neg hv
  rw [e] at q
  refine ⟨_,rfl,x,ps,_,rfl,r,hps,fun p1 us H1 _ s1 h1 r1=>?_⟩
  have l1:=r1.length
  refine ⟨_,rfl,(by show 0≤sizeLine; decide),fun p2 hp2=>?_⟩
  have s2:=same_new hp2 (.lst [])
  have hp2':(upd H1 p2 (.lst [])) p2=some (.lst []):=upd_same
  have h1':=s2 _ _ h1
  generalize upd H1 p2 (.lst [])=H2 at s2 hp2' h1' ⊢
  refine ⟨p1,p2,us,rfl,rfl,SqL.of h1',SqL.of hp2',_,rfl,?_⟩
  have s12:=s1.trans s2
  refine ite2 (fun c=>?_) (fun c=>?_)
  · have hn:us=[]:=of_decide_eq_true c
    have hk:kidsD x ps=[]:=List.length_eq_zero_iff.mp (by rw [← l1,hn]; rfl)
    rw [hk] at q
    exact ⟨_,rfl,q _ H2 s12 (by
      unfold rebuiltD
      show Rep H2 (if ([]:List KM.D)=[] then _ else _) _
      rw [if_pos rfl]
      exact r.mono s12)⟩
  have hne:us≠[]:=fun z=>c (decide_eq_true z)
  refine ⟨_,rfl,a,_,_,_,rfl,rfl,SqT.of (s12 _ _ ha),ea,(by show 1≤sizeLine; decide),fun p3 hp3=>?_⟩
  have s3:=same_new hp3 (.tup [V.str x])
  have s13:=s12.trans s3
  have h13:=s3 _ _ h1'
  have r13:=r1.mono (s2.trans s3)
  have hp33:(upd H2 p3 (.tup [V.str x])) p3=some (.tup [V.str x]):=upd_same
  generalize upd H2 p3 (.tup [V.str x])=H3 at s3 s13 h13 r13 hp33 ⊢
  refine ⟨_,rfl,p1,us,rfl,.inl (SqL.of h13),_,rfl,(by show -(2 ^ 62)≤((us.length:Nat):Int); omega),(by show ((us.length:Nat):Int)<2 ^ 62; omega),fun p4 hp4=>?_⟩
  refine comp_reps us.length (fun i=>plcD o at_ n (ov+bdI x i) (((kidsD x ps)[i]?).getD .non)) hp4 (by rw [l1]; exact Nat.le_trans hk4 (by decide)) (fun i H4 hi s4=>⟨hi,?_⟩) fun acc H4 s4 h4 r4=>⟨Nat.le_refl _,?_⟩
  · rintro x' H5 ⟨rfl,rfl⟩ R hR
    have e0:(0:Int)+(i:Int)=((i:Nat):Int):=by omega
    rw [e0]
    obtain ⟨di,hdi⟩:∃ di,(kidsD x ps)[i]?=some di:=⟨_,List.getElem?_eq_getElem (by omega)⟩
    obtain ⟨ui,hui,rui⟩:=r13.get hdi
    obtain ⟨w1,w2⟩:=wf_kid wf hdi
    rw [hdi] at hR
    refine ⟨_,rfl,_,rfl,p1,us,_,ui,rfl,rfl,SqL.of (s4 _ _ h13),atI_nat hui,_,rfl,_,rfl,_,rfl,_,rfl,x,ps,_,i,rfl,r.mono (s13.trans s4),fun H5 s5=>?_⟩
    exact ⟨_,_,rfl,rfl,di,o,ui,w0,at_,ov+bdI x i,hat,rfl,rui.mono (s4.trans s5),ro.mono (s13.trans (s4.trans s5)),w1,wo,by omega,ho,by have:=bdI_nn x i; omega,by have:=bdI_le x i; omega,fun u H6 s6 r6=>hR u H6 (s5.trans s6) r6⟩
  · have la:acc.length=us.length:=by rw [r4.length,List.length_map,List.length_range]
    refine ⟨p4,acc,rfl,.inl ⟨SqL.of h4,fun p5 hp5=>?_⟩⟩
    have s5:=same_new hp5 (.tup acc)
    refine ⟨p3,p5,_,_,rfl,rfl,s5 _ _ (s4 _ _ hp33),upd_same,?_,fun p6 H6 s6 h6=>?_⟩
    · rw [List.length_singleton,show sizeLine=16777216 by decide]; omega
    · have sa:=s13.trans (s4.trans (s5.trans s6))
      refine q _ H6 sa ?_
      unfold rebuiltD
      rw [if_neg (fun z=>hne (List.length_eq_zero_iff.mp (by have:=congrArg List.length z; rw [List.length_map,List.length_range] at this; simpa [l1] using this)))]
      rw [← l1]
      exact ⟨p6,_,rfl,h6,_,_,rfl,⟨rfl,hx⟩,r4.mono (s5.trans s6)⟩
theorem c_law_put (D:Df K mg "_law_put" s_law_put ["_law_thing", "_law_other", "_law_over_here"]) (M:Mg mg t) (F_law_kids:Cal P w K mg CX0 "_law_kids" (1) ["_law_thing"] spKids) (F_law_over:Cal P w K mg CX0 "_law_over" (1) ["_law_thing", "_law_number"] spOvr) (F_law_moved:Cal P w K mg CX0 "_law_moved" (62) ["_law_thing", "_law_by", "_law_low"] (spMoved 58)):∀ n:Nat,Cal P w K mg CX0 "_law_put" (n+63) ["_law_thing", "_law_other", "_law_over_here"] (spPlaced n)
  | 0=>Cal.never D fun vs H Q E ⟨d,o,v,w0,at_,ov,_,_,_,_,_,_,h,_⟩=>absurd h (Nat.not_lt_zero _)
  | n+1=>st_law_put D M F_law_kids F_law_over F_law_moved (c_law_put D M F_law_kids F_law_over F_law_moved n)
end K27
end
section
set_option maxHeartbeats 4000000
namespace K27
open PySem L2 L3 KM PyProof.Rows
def natD:D:=.tup [.str "nat"]
def zeroD:D:=.tup [.str "zero"]
def vrD (i:Int):D:=.tup [.str "var",.int i]
def apD (a b:D):D:=.tup [.str "app",a,b]
def smD (d:D):D:=.tup [.str "same",natD,d,zeroD]
def rnd:Nat→D→D
  | 0,d=>.tup [.str "rec",smD d,zeroD,zeroD,zeroD]
  | 1,d=>.tup [.str "carry",smD d,zeroD,zeroD]
  | 2,d=>.tup [.str "like",.tup [.str "all",natD,smD d],zeroD]
  | 6,d=>.tup [.str "next",d]
  | 7,d=>.tup [.str "pair",natD,zeroD,d]
  | _,d=>.tup [.str "fun",natD,d]
def rndL:List Nat→D→D
  | [],d=>d
  | w::ws,d=>rnd w (rndL ws d)
def preN:Nat→List Nat
  | 0=>[]
  | 1=>[0,1]
  | 2=>[0,1,1]
  | 6=>[0]
  | 7=>[2]
  | _=>[1]
def path:List Nat→List Nat
  | []=>[]
  | w::ws=>preN w++path ws
theorem rnd_cases {M:Nat→Prop} (h0:M 0) (h1:M 1) (h2:M 2) (h6:M 6) (h7:M 7) (hf:∀ w,rnd w=(fun d=>.tup [.str "fun",natD,d])→preN w=[1]→w≠0→M w):∀ w,M w
  | 0=>h0 | 1=>h1 | 2=>h2 | 3=>hf 3 rfl rfl (by decide) | 4=>hf 4 rfl rfl (by decide) | 5=>hf 5 rfl rfl (by decide) | 6=>h6 | 7=>h7 | w+8=>hf (w+8) rfl rfl (by omega)
variable {inb:Str→Bool} {d e:D}
theorem fst_node {x:Str} {ps:List D} (h1:ruleS inb (.tup (.str x::ps))=none) (h2:leafW x=false):fstD inb (.tup (.str x::ps))=fstL inb 0 ps:=by
  rw [fstD_eq,h1]
  show fstL inb 0 (kidsD x ps)=_
  unfold kidsD
  rw [h2]
  rfl
theorem fst_none {i:Nat} {ds:List D} (h:fstD inb d=none):fstL inb i (d::ds)=fstL inb (i+1) ds:=by rw [fstL,h]
theorem fst_some {i:Nat} {r:Sp2} {ds:List D} (h:fstD inb d=some r):fstL inb i (d::ds)=some (i::r.1,r.2):=by rw [fstL,h]
theorem fstL_nil {i:Nat}:fstL inb i []=none:=by rw [fstL]
theorem fst_nat:fstD inb natD=none:=by rw [natD,fst_node (by kernel_rfl) (by decide +kernel),fstL_nil]
theorem fst_zero:fstD inb zeroD=none:=by rw [zeroD,fst_node (by kernel_rfl) (by decide +kernel),fstL_nil]
theorem fst_var (i:Int):fstD inb (vrD i)=none:=by
  rw [vrD,fstD_eq,show ruleS inb (.tup [.str "var",.int i])=none by kernel_rfl]
  show fstL inb 0 (kidsD "var" [.int i])=none
  rw [show kidsD "var" [.int i]=[] by kernel_rfl,fstL_nil]
def shO (pl:List Nat):Option Sp2→Option Sp2
  | none=>none
  | some r=>some (pl++r.1,r.2)
theorem fst_same:fstD inb (smD d)=shO [1] (fstD inb d):=by
  rw [smD,fst_node (by kernel_rfl) (by decide +kernel),fst_none fst_nat]
  cases h:fstD inb d with
  | none=>rw [fst_none h,fst_none fst_zero,fstL_nil]; rfl
  | some r=>rw [fst_some h]; rfl
theorem fst_rec:fstD inb (rnd 0 d)=some ([],Str.ofString "zero"):=by
  show fstD inb (.tup [.str "rec",smD d,zeroD,zeroD,zeroD])=_
  rw [fstD_eq,show ruleS inb (.tup [.str "rec",smD d,zeroD,zeroD,zeroD])=some (Str.ofString "zero") by kernel_rfl]
theorem fst_rnd:∀ w:Nat,w≠0→fstD inb (rnd w d)=shO (preN w) (fstD inb d):=by
  refine rnd_cases (fun h=>absurd rfl h) (fun _=>?_) (fun _=>?_) (fun _=>?_) (fun _=>?_) (fun w e1 e2 _ _=>?_)
  · show fstD inb (.tup [.str "carry",smD d,zeroD,zeroD])=_
    rw [fst_node (by kernel_rfl) (by decide +kernel)]
    cases h:fstD inb d with
    | none=>rw [fst_none (by rw [fst_same,h]; rfl),fst_none fst_zero,fst_none fst_zero,fstL_nil]; rfl
    | some r=>rw [fst_some (by rw [fst_same,h]; rfl)]; rfl
  · show fstD inb (.tup [.str "like",.tup [.str "all",natD,smD d],zeroD])=_
    have ha:fstD inb (.tup [.str "all",natD,smD d])=shO [1,1] (fstD inb d):=by
      rw [fst_node (by kernel_rfl) (by decide +kernel),fst_none fst_nat]
      cases h:fstD inb d with
      | none=>rw [fst_none (by rw [fst_same,h]; rfl),fstL_nil]; rfl
      | some r=>rw [fst_some (by rw [fst_same,h]; rfl)]; rfl
    rw [fst_node (by kernel_rfl) (by decide +kernel)]
    cases h:fstD inb d with
    | none=>rw [fst_none (by rw [ha,h]; rfl),fst_none fst_zero,fstL_nil]; rfl
    | some r=>rw [fst_some (by rw [ha,h]; rfl)]; rfl
  · show fstD inb (.tup [.str "next",d])=_
    rw [fst_node (by kernel_rfl) (by decide +kernel)]
    cases h:fstD inb d with
    | none=>rw [fst_none h,fstL_nil]; rfl
    | some r=>rw [fst_some h]; rfl
  · show fstD inb (.tup [.str "pair",natD,zeroD,d])=_
    rw [fst_node (by kernel_rfl) (by decide +kernel),fst_none fst_nat,fst_none fst_zero]
    cases h:fstD inb d with
    | none=>rw [fst_none h,fstL_nil]; rfl
    | some r=>rw [fst_some h]; rfl
  · rw [e1,e2]
    show fstD inb (.tup [.str "fun",natD,d])=_
    rw [fst_node (by kernel_rfl) (by decide +kernel),fst_none fst_nat]
    cases h:fstD inb d with
    | none=>rw [fst_none h,fstL_nil]; rfl
    | some r=>rw [fst_some h]; rfl
theorem fst_rndL:∀ ws:List Nat,(∀ w∈ws,w≠0)→fstD inb (rndL ws d)=shO (path ws) (fstD inb d)
  | [],_=>by
    show fstD inb d=shO [] (fstD inb d)
    cases fstD inb d <;> rfl
  | w::ws,h=>by
    show fstD inb (rnd w (rndL ws d))=shO (preN w++path ws) _
    rw [fst_rnd w (h w (by simp)),fst_rndL ws fun v hv=>h v (by simp [hv])]
    cases fstD inb d with
    | none=>rfl
    | some r=>show some _=some _; simp
theorem goto_rnd:∀ w:Nat,w≠0→goto (rnd w d) (toI (preN w))=some d:=by
  refine rnd_cases (fun h=>absurd rfl h) (fun _=>?_) (fun _=>?_) (fun _=>?_) (fun _=>?_) (fun w e1 e2 _ _=>?_)
  · show goto (.tup [.str "carry",smD d,zeroD,zeroD]) [0,1]=some d
    rw [goto_cons (p:=smD d) (by kernel_rfl),goto_cons (p:=d) (by kernel_rfl)]; rfl
  · show goto (.tup [.str "like",.tup [.str "all",natD,smD d],zeroD]) [0,1,1]=some d
    rw [goto_cons (p:=.tup [.str "all",natD,smD d]) (by kernel_rfl),goto_cons (p:=smD d) (by kernel_rfl),goto_cons (p:=d) (by kernel_rfl)]; rfl
  · show goto (.tup [.str "next",d]) [0]=some d
    rw [goto_cons (p:=d) (by kernel_rfl)]; rfl
  · show goto (.tup [.str "pair",natD,zeroD,d]) [2]=some d
    rw [goto_cons (p:=d) (by kernel_rfl)]; rfl
  · rw [e1,e2]
    show goto (.tup [.str "fun",natD,d]) [1]=some d
    rw [goto_cons (p:=d) (by kernel_rfl)]; rfl
theorem toI_app (a b:List Nat):toI (a++b)=toI a++toI b:=List.map_append
theorem goto_rndL (pl:List Nat):∀ ws:List Nat,(∀ w∈ws,w≠0)→goto (rndL ws d) (toI (path ws++pl))=goto d (toI pl)
  | [],_=>rfl
  | w::ws,h=>by
    show goto (rnd w (rndL ws d)) (toI (preN w++path ws++pl))=_
    rw [List.append_assoc,toI_app,goto_append _ _ _ _ (goto_rnd w (h w (by simp)))]
    exact goto_rndL pl ws fun v hv=>h v (by simp [hv])
theorem put_rnd (is:List Int):∀ w:Nat,w≠0→putD (rnd w d) (toI (preN w)++is) e=rnd w (putD d is e):=by
  refine rnd_cases (fun h=>absurd rfl h) (fun _=>?_) (fun _=>?_) (fun _=>?_) (fun _=>?_) (fun w e1 e2 _ _=>?_)
  · show putD (.tup [.str "carry",smD d,zeroD,zeroD]) (0::1::is) e=_
    rw [put_cons (p:=smD d) (by kernel_rfl)]
    unfold smD
    rw [put_cons (p:=d) (by kernel_rfl)]; rfl
  · show putD (.tup [.str "like",.tup [.str "all",natD,smD d],zeroD]) (0::1::1::is) e=_
    rw [put_cons (p:=.tup [.str "all",natD,smD d]) (by kernel_rfl),put_cons (p:=smD d) (by kernel_rfl)]
    unfold smD
    rw [put_cons (p:=d) (by kernel_rfl)]; rfl
  · show putD (.tup [.str "next",d]) (0::is) e=_
    rw [put_cons (p:=d) (by kernel_rfl)]; rfl
  · show putD (.tup [.str "pair",natD,zeroD,d]) (2::is) e=_
    rw [put_cons (p:=d) (by kernel_rfl)]; rfl
  · rw [e1,e2]
    show putD (.tup [.str "fun",natD,d]) (1::is) e=_
    rw [put_cons (p:=d) (by kernel_rfl)]; rfl
theorem put_rndL (pl:List Nat):∀ ws:List Nat,(∀ w∈ws,w≠0)→putD (rndL ws d) (toI (path ws++pl)) e=rndL ws (putD d (toI pl) e)
  | [],_=>rfl
  | w::ws,h=>by
    show putD (rnd w (rndL ws d)) (toI (preN w++path ws++pl)) e=_
    rw [List.append_assoc,toI_app,put_rnd _ w (h w (by simp)),put_rndL pl ws fun v hv=>h v (by simp [hv])]
    rfl
variable {g:Int→Int→D} {n:Nat} {b:Int}
theorem wfD_node {x:Str} {ps:List D} (hv:x ≠ "var") (hl:leafW x=false) (hp:ps≠[]):wfD g (n+1) b (.tup (.str x::ps))=.tup (.str x::(List.range ps.length).map fun i=>wfD g n (b+bdI x i) ((ps[i]?).getD .non)):=by
  conv=>lhs; unfold wfD
  rw [if_neg hv]
  have e:kidsD x ps=ps:=by unfold kidsD; rw [hl]; rfl
  rw [e]
  unfold rebuiltD
  rw [if_neg]
  intro z
  have:=congrArg List.length z
  rw [List.length_map,List.length_range] at this
  exact hp (List.length_eq_zero_iff.mp this)
theorem wfD_leaf {x:Str} (hv:x ≠ "var"):wfD g n b (.tup [.str x])=.tup [.str x]:=by
  cases n with
  | zero=>unfold wfD; rfl
  | succ n =>
    conv=>lhs; unfold wfD
    rw [if_neg hv]
    have e:kidsD x []=[]:=by unfold kidsD; split <;> rfl
    rw [e]
    rfl
theorem wfD_nat:wfD g n b natD=natD:=wfD_leaf (by decide +kernel)
theorem wfD_zero:wfD g n b zeroD=zeroD:=wfD_leaf (by decide +kernel)
theorem wfD_same:wfD g (n+1) b (smD d)=smD (wfD g n b d):=by
  unfold smD
  rw [wfD_node (by decide +kernel) (by decide +kernel) (by simp)]
  show KM.D.tup [.str "same",wfD g n (b+bdI "same" 0) natD,wfD g n (b+bdI "same" 1) d,wfD g n (b+bdI "same" 2) zeroD]=_
  rw [wfD_nat,wfD_zero,show bdI "same" 1=0 by kernel_rfl,Int.add_zero]
theorem dp_rnd (d:D) (w:Nat):depth d<depth (rnd w d):=by
  revert w
  refine rnd_cases ?_ ?_ ?_ ?_ ?_ (fun w e1 _ _=>?_)
  all_goals first | rw [e1] | skip
  all_goals simp only [rnd,smD,depth,depthL]; omega
theorem wfD_rnd:∀ w:Nat,∀ (n:Nat) (b:Int),0≤b→depth (rnd w d)<n→∃ (n':Nat) (b':Int),0≤b'∧depth d<n'∧wfD g n b (rnd w d)=rnd w (wfD g n' b' d):=by
  refine rnd_cases ?_ ?_ ?_ ?_ ?_ (fun w e1 _ _=>?_)
  · intro n b hb h
    have h:depth (.tup [.str "rec",smD d,zeroD,zeroD,zeroD])<n:=h
    simp only [smD,depth,depthL] at h
    obtain ⟨m,rfl⟩:∃ m,n=m+1+1:=⟨n-2,by omega⟩
    refine ⟨m,b+1,by omega,by omega,?_⟩
    show wfD g (m+1+1) b (.tup [.str "rec",smD d,zeroD,zeroD,zeroD])=_
    rw [wfD_node (by decide +kernel) (by decide +kernel) (by simp)]
    show KM.D.tup [.str "rec",wfD g (m+1) (b+bdI "rec" 0) (smD d),wfD g (m+1) (b+bdI "rec" 1) zeroD,wfD g (m+1) (b+bdI "rec" 2) zeroD,wfD g (m+1) (b+bdI "rec" 3) zeroD]=_
    rw [wfD_zero,wfD_zero,wfD_zero,wfD_same,show bdI "rec" 0=1 by kernel_rfl]
    rfl
  · intro n b hb h
    have h:depth (.tup [.str "carry",smD d,zeroD,zeroD])<n:=h
    simp only [smD,depth,depthL] at h
    obtain ⟨m,rfl⟩:∃ m,n=m+1+1:=⟨n-2,by omega⟩
    refine ⟨m,b+1,by omega,by omega,?_⟩
    show wfD g (m+1+1) b (.tup [.str "carry",smD d,zeroD,zeroD])=_
    rw [wfD_node (by decide +kernel) (by decide +kernel) (by simp)]
    show KM.D.tup [.str "carry",wfD g (m+1) (b+bdI "carry" 0) (smD d),wfD g (m+1) (b+bdI "carry" 1) zeroD,wfD g (m+1) (b+bdI "carry" 2) zeroD]=_
    rw [wfD_zero,wfD_zero,wfD_same,show bdI "carry" 0=1 by kernel_rfl]
    rfl
  · intro n b hb h
    have h:depth (.tup [.str "like",.tup [.str "all",natD,smD d],zeroD])<n:=h
    simp only [smD,depth,depthL] at h
    obtain ⟨m,rfl⟩:∃ m,n=m+1+1+1:=⟨n-3,by omega⟩
    refine ⟨m,b+0+1,by omega,by omega,?_⟩
    show wfD g (m+1+1+1) b (.tup [.str "like",.tup [.str "all",natD,smD d],zeroD])=_
    rw [wfD_node (by decide +kernel) (by decide +kernel) (by simp)]
    show KM.D.tup [.str "like",wfD g (m+1+1) (b+bdI "like" 0) (.tup [.str "all",natD,smD d]),wfD g (m+1+1) (b+bdI "like" 1) zeroD]=_
    rw [wfD_zero,wfD_node (by decide +kernel) (by decide +kernel) (by simp)]
    show KM.D.tup [.str "like",.tup [.str "all",wfD g (m+1) (b+bdI "like" 0+bdI "all" 0) natD,wfD g (m+1) (b+bdI "like" 0+bdI "all" 1) (smD d)],zeroD]=_
    rw [wfD_nat,wfD_same,show bdI "like" 0=0 by kernel_rfl,show bdI "all" 1=1 by kernel_rfl]
    rfl
  · intro n b hb h
    have h:depth (.tup [.str "next",d])<n:=h
    simp only [depth,depthL] at h
    obtain ⟨m,rfl⟩:∃ m,n=m+1:=⟨n-1,by omega⟩
    refine ⟨m,b+0,by omega,by omega,?_⟩
    show wfD g (m+1) b (.tup [.str "next",d])=_
    rw [wfD_node (by decide +kernel) (by decide +kernel) (by simp)]
    show KM.D.tup [.str "next",wfD g m (b+bdI "next" 0) d]=_
    rw [show bdI "next" 0=0 by kernel_rfl]
    rfl
  · intro n b hb h
    have h:depth (.tup [.str "pair",natD,zeroD,d])<n:=h
    simp only [depth,depthL] at h
    obtain ⟨m,rfl⟩:∃ m,n=m+1:=⟨n-1,by omega⟩
    refine ⟨m,b+0,by omega,by omega,?_⟩
    show wfD g (m+1) b (.tup [.str "pair",natD,zeroD,d])=_
    rw [wfD_node (by decide +kernel) (by decide +kernel) (by simp)]
    show KM.D.tup [.str "pair",wfD g m (b+bdI "pair" 0) natD,wfD g m (b+bdI "pair" 1) zeroD,wfD g m (b+bdI "pair" 2) d]=_
    rw [wfD_nat,wfD_zero,show bdI "pair" 2=0 by kernel_rfl]
    rfl
  · intro n b hb h
    rw [e1] at h ⊢
    have h:depth (.tup [.str "fun",natD,d])<n:=h
    simp only [depth,depthL] at h
    obtain ⟨m,rfl⟩:∃ m,n=m+1:=⟨n-1,by omega⟩
    refine ⟨m,b+1,by omega,by omega,?_⟩
    show wfD g (m+1) b (.tup [.str "fun",natD,d])=_
    rw [wfD_node (by decide +kernel) (by decide +kernel) (by simp)]
    show KM.D.tup [.str "fun",wfD g m (b+bdI "fun" 0) natD,wfD g m (b+bdI "fun" 1) d]=_
    rw [wfD_nat,show bdI "fun" 1=1 by kernel_rfl]
theorem wfD_rndL:∀ (ws:List Nat) (n:Nat) (b:Int),0≤b→depth (rndL ws d)<n→∃ (n':Nat) (b':Int),0≤b'∧depth d<n'∧wfD g n b (rndL ws d)=rndL ws (wfD g n' b' d)
  | [],n,b,hb,h=>⟨n,b,hb,h,rfl⟩
  | w::ws,n,b,hb,h=>by
    obtain ⟨n1,b1,hb1,h1,e1⟩:=wfD_rnd (g:=g) (d:=rndL ws d) w n b hb h
    obtain ⟨n2,b2,hb2,h2,e2⟩:=wfD_rndL ws n1 b1 hb1 h1
    exact ⟨n2,b2,hb2,h2,e1.trans (congrArg (rnd w) e2)⟩
theorem wfD_app {x y:D}:wfD g (n+1) b (apD x y)=apD (wfD g n b x) (wfD g n b y):=by
  unfold apD
  rw [wfD_node (by decide +kernel) (by decide +kernel) (by simp)]
  show KM.D.tup [.str "app",wfD g n (b+bdI "app" 0) x,wfD g n (b+bdI "app" 1) y]=_
  rw [show bdI "app" 0=0 by kernel_rfl,show bdI "app" 1=0 by kernel_rfl,Int.add_zero]
theorem wfD_var {i:Int}:wfD g (n+1) b (vrD i)=if b≤i then g (i-b) b else vrD i:=by
  unfold vrD
  rw [wfD,if_pos rfl]
theorem wfD_nx {x:D}:wfD g (n+1) b (.tup [.str "next",x])=.tup [.str "next",wfD g n b x]:=by
  rw [wfD_node (by decide +kernel) (by decide +kernel) (by simp)]
  show KM.D.tup [.str "next",wfD g n (b+bdI "next" 0) x]=_
  rw [show bdI "next" 0=0 by kernel_rfl,Int.add_zero]
end K27
end
section
set_option maxHeartbeats 4000000
namespace K27
open PySem L2 L3 KM PyProof.Rows
variable {inb:Str→Bool} {d e:D}
theorem wf_goto:∀ {pl:List Int} {d g:D},Wf d→goto d pl=some g→Wf g
  | [],d,g,h,e=>by
    rw [goto] at e
    cases e
    exact h
  | i :: is, d, g, h, e => by
    cases ek:kidAt d i with
    | none=>rw [goto_stop ek] at e; cases e
    | some p =>
      rw [goto_cons ek] at e
      exact wf_goto (wf_kidAt h ek) e
theorem wf_sm (h:wfG isStrD false d=true):wfG isStrD true (smD d)=true:=by
  refine wfG_mk (w := "same") (s := "ktt") (by decide +kernel) (by decide +kernel) ?_
  rw [show (Str.ofString "ktt").cps.toList=[107,116,116] by decide +kernel,wfL_cons,wfL_cons,wfL_cons]
  simp [dueB,h,wfL,natD,zeroD,wf_nat,wf_zero]
theorem wf_ap {a b:D} (h1:wfG isStrD false a=true) (h2:wfG isStrD false b=true):wfG isStrD false (apD a b)=true:=by
  refine wfG_mk (w := "app") (s := "tt") (by decide +kernel) (by decide +kernel) ?_
  rw [show (Str.ofString "tt").cps.toList=[116,116] by decide +kernel,wfL_cons,wfL_cons]
  simp [dueB,h1,h2,wfL]
theorem wf_rnd (h:wfG isStrD false d=true):∀ w:Nat,wfG isStrD false (rnd w d)=true:=by
  have hs:=wf_sm h
  refine rnd_cases ?_ ?_ ?_ ?_ ?_ (fun w e1 _ _=>?_)
  · refine wfG_mk (w := "rec") (s := "kttt") (by decide +kernel) (by decide +kernel) ?_
    rw [show (Str.ofString "kttt").cps.toList=[107,116,116,116] by decide +kernel,wfL_cons,wfL_cons,wfL_cons,wfL_cons]
    simp [dueB,hs,wfL,natD,zeroD,wf_nat,wf_zero]
  · refine wfG_mk (w := "carry") (s := "ktt") (by decide +kernel) (by decide +kernel) ?_
    rw [show (Str.ofString "ktt").cps.toList=[107,116,116] by decide +kernel,wfL_cons,wfL_cons,wfL_cons]
    simp [dueB,hs,wfL,natD,zeroD,wf_nat,wf_zero]
  · have ha:wfG isStrD true (.tup [.str "all",natD,smD d])=true:=by
      refine wfG_mk (w := "all") (s := "kk") (by decide +kernel) (by decide +kernel) ?_
      rw [show (Str.ofString "kk").cps.toList=[107,107] by decide +kernel,wfL_cons,wfL_cons]
      simp [dueB,hs,wfL,natD,wf_nat]
    refine wfG_mk (w := "like") (s := "kt") (by decide +kernel) (by decide +kernel) ?_
    rw [show (Str.ofString "kt").cps.toList=[107,116] by decide +kernel,wfL_cons,wfL_cons]
    simp [dueB,ha,wfL,zeroD,wf_zero]
  · refine wfG_mk (w := "next") (s := "t") (by decide +kernel) (by decide +kernel) ?_
    rw [show (Str.ofString "t").cps.toList=[116] by decide +kernel,wfL_cons]
    simp [dueB,h,wfL]
  · refine wfG_mk (w := "pair") (s := "ktt") (by decide +kernel) (by decide +kernel) ?_
    rw [show (Str.ofString "ktt").cps.toList=[107,116,116] by decide +kernel,wfL_cons,wfL_cons,wfL_cons]
    simp [dueB,h,wfL,natD,zeroD,wf_nat,wf_zero]
  · rw [e1]
    refine wfG_mk (w := "fun") (s := "kt") (by decide +kernel) (by decide +kernel) ?_
    rw [show (Str.ofString "kt").cps.toList=[107,116] by decide +kernel,wfL_cons,wfL_cons]
    simp [dueB,h,wfL,natD,wf_nat]
theorem wf_rndL (h:wfG isStrD false d=true):∀ ws:List Nat,wfG isStrD false (rndL ws d)=true
  | []=>h
  | w::ws=>wf_rnd (wf_rndL h ws) w
theorem cmp_rnd (h:cmpD d=true):∀ w:Nat,cmpD (rnd w d)=true:=by
  have z:∀ s:Str,cmpD (.str s)=true→∀ ds:List D,cmpL ds=true→cmpD (.tup (.str s::ds))=true:=fun s h1 ds h2=>by
    show (cmpD (.str s) && cmpL ds)=true
    rw [h1,h2]; rfl
  have c2:∀ (x:D) (ds:List D),cmpD x=true→cmpL ds=true→cmpL (x::ds)=true:=fun x ds h1 h2=>by
    show (cmpD x && cmpL ds)=true
    rw [h1,h2]; rfl
  have hn:cmpD natD=true:=by decide +kernel
  have hz:cmpD zeroD=true:=by decide +kernel
  have hs:cmpD (smD d)=true:=z _ (by decide +kernel) _ (c2 _ _ hn (c2 _ _ h (c2 _ _ hz rfl)))
  refine rnd_cases ?_ ?_ ?_ ?_ ?_ (fun w e1 _ _=>?_)
  · exact z _ (by decide +kernel) _ (c2 _ _ hs (c2 _ _ hz (c2 _ _ hz (c2 _ _ hz rfl))))
  · exact z _ (by decide +kernel) _ (c2 _ _ hs (c2 _ _ hz (c2 _ _ hz rfl)))
  · exact z _ (by decide +kernel) _ (c2 _ _ (z _ (by decide +kernel) _ (c2 _ _ hn (c2 _ _ hs rfl))) (c2 _ _ hz rfl))
  · exact z _ (by decide +kernel) _ (c2 _ _ h rfl)
  · exact z _ (by decide +kernel) _ (c2 _ _ hn (c2 _ _ hz (c2 _ _ h rfl)))
  · rw [e1]
    exact z _ (by decide +kernel) _ (c2 _ _ hn (c2 _ _ h rfl))
theorem cmp_rndL (h:cmpD d=true):∀ ws:List Nat,cmpD (rndL ws d)=true
  | []=>h
  | w::ws=>cmp_rnd (cmp_rndL h ws) w
theorem cmp_ap {a b:D} (h1:cmpD a=true) (h2:cmpD b=true):cmpD (apD a b)=true:=by
  show (cmpD (.str "app") && (cmpD a && (cmpD b && true)))=true
  rw [h1,h2]
  decide +kernel
theorem cmp_vr (i:Int):cmpD (vrD i)=true:=by
  show (cmpD (.str "var") && (cmpD (.int i) && true))=true
  rw [show cmpD (.int i)=true from rfl]
  decide +kernel
def nxD (d:D):D:=.tup [.str "next",d]
def oD (p q:Int):D:=apD (vrD p) (nxD (vrD q))
structure Vl (d:D):Prop where
  f:∀ inb,fstD inb d=none
  h:hdD d ≠ "fun"
  c:cmpD d=true
theorem vl_var (i:Int):Vl (vrD i):=⟨fun inb=>fst_var i,by show Str.ofString "var" ≠ "fun"; decide +kernel,cmp_vr i⟩
theorem fst_nx:fstD inb (nxD d)=shO [0] (fstD inb d):=fst_rnd 6 (by decide)
theorem fst_ap {a b:D} (h1:fstD inb a=none) (h2:hdD a ≠ "fun") (h3:fstD inb b=none):fstD inb (apD a b)=none:=by
  have e:ruleS inb (apD a b)=none:=by
    show strV (if hdD a = "fun" then V.str "fun" else .non)=none
    rw [if_neg h2]
    rfl
  rw [apD,fst_node e (by decide +kernel),fst_none h1,fst_none h3,fstL_nil]
theorem vl_o (p q:Int):Vl (oD p q):=by
  refine ⟨fun inb=>fst_ap (fst_var p) (vl_var p).h ?_,by show Str.ofString "app" ≠ "fun"; decide +kernel,cmp_ap (cmp_vr p) (cmp_rnd (cmp_vr q) 6)⟩
  rw [fst_nx,fst_var]
  rfl
theorem chg_var (b l:Int) (n:Nat) (i:Int):∃ j,wfD (chgD b l) (n+1) 0 (vrD i)=vrD j:=by
  rw [wfD_var]
  split
  · exact ⟨_,rfl⟩
  · exact ⟨_,rfl⟩
theorem chg_o (b:Int) (p q:Int):Vl (wfD (chgD b 0) 58 0 (oD p q)):=by
  unfold oD nxD
  rw [show (58:Nat)=55+1+1+1 from rfl,wfD_app,wfD_nx]
  obtain ⟨j1,e1⟩:=chg_var b 0 (55+1) p
  obtain ⟨j2,e2⟩:=chg_var b 0 55 q
  rw [e1,e2]
  exact vl_o j1 j2
theorem put_var (p q:Int) (n:Nat) (b i:Int):Vl (wfD (putG (oD p q) 0) (n+1) b (vrD i)):=by
  rw [wfD_var]
  split
  · unfold putG
    split
    · exact chg_o b p q
    · exact vl_var _
  · exact vl_var i
theorem pin_form {ws:List Nat} {a c p q:Int} (h:depth (rndL ws (apD (vrD a) (vrD c)))<58):∃ A C:D,pinD (oD p q) 0 (rndL ws (apD (vrD a) (vrD c)))=rndL ws (apD A C)∧Vl A∧Vl C:=by
  obtain ⟨n',b',hb,hn,e⟩:=wfD_rndL (g:=putG (oD p q) 0) ws 58 0 (Int.le_refl 0) h
  have d2:depth (apD (vrD a) (vrD c))=2:=by simp [apD,vrD,depth,depthL]
  obtain ⟨m,rfl⟩:∃ m,n'=m+1+1:=⟨n'-2,by omega⟩
  rw [wfD_app] at e
  exact ⟨_,_,e,put_var p q m b' a,put_var p q m b' c⟩
abbrev nx6 (k:Nat):List Nat:=List.replicate k 6
theorem nx6_ok (k:Nat):∀ w∈nx6 k,w≠0:=fun w h=>by rw [List.eq_of_mem_replicate h]; decide
theorem path_nx:∀ k:Nat,path (nx6 k)=List.replicate k 0
  | 0=>rfl
  | k+1=>by
    show preN 6++path (nx6 k)=_
    rw [path_nx k]
    rfl
theorem nx6_dp:∀ k:Nat,depth (rndL (nx6 k) d)=k+depth d
  | 0=>by show depth d=_; omega
  | k+1=>by
    have:=nx6_dp k
    show depth (.tup [.str "next",rndL (nx6 k) d])=_
    simp only [depth,depthL]
    omega
theorem nx6_gr:∀ k:Nat,greatD d=true→greatD (rndL (nx6 k) d)=true
  | 0,h=>h
  | k + 1, h => by
    have ih:(vastD (rndL (nx6 k) d) || bigD (rndL (nx6 k) d))=true:=nx6_gr k h
    show (vastD (.tup [.str "next",rndL (nx6 k) d]) || bigD (.tup [.str "next",rndL (nx6 k) d]))=true
    generalize rndL (nx6 k) d=x at ih
    rw [Bool.or_eq_true] at ih ⊢
    rcases ih with ih | ih
    · left
      unfold vastD at ih ⊢
      simp only [depth,depthL,knots,knotsL]
      simp at ih ⊢
      omega
    · right
      simp [bigD,bigL,ih]
theorem rndL_app (b:List Nat) (d:D):∀ a:List Nat,rndL (a++b) d=rndL a (rndL b d)
  | []=>rfl
  | w::a=>congrArg (rnd w) (rndL_app b d a)
theorem dp_rndL (d:D):∀ ws:List Nat,depth d≤depth (rndL ws d)
  | []=>Nat.le_refl _
  | w::ws=>Nat.le_of_lt (Nat.lt_of_le_of_lt (dp_rndL d ws) (dp_rnd _ w))
theorem split0:∀ vs:List Nat,(∀ w∈vs,w≠0)∨∃ v1 v2:List Nat,vs=v1++0::v2∧∀ w∈v1,w≠0
  | []=>.inl fun _ h=>by cases h
  | w::vs=>by
    by_cases h:w=0
    · exact .inr ⟨[],vs,by rw [h]; rfl,fun _ h=>by cases h⟩
    rcases split0 vs with h1 | ⟨v1,v2,e,h1⟩
    · exact .inl fun v hv=>(List.mem_cons.mp hv).elim (fun z=>by rw [z]; exact h) (h1 v)
    · exact .inr ⟨w::v1,v2,by rw [e]; rfl,fun v hv=>(List.mem_cons.mp hv).elim (fun z=>by rw [z]; exact h) (h1 v)⟩
structure One (ws:List Nat) (a c p q:Int):Prop where
  a0:0≤a
  c0:0≤c
  p0:0≤p
  q0:0≤q
def bdD (ws:List Nat) (a c:Int):D:=rndL ws (apD (vrD a) (vrD c))
def oneD (ws:List Nat) (a c p q:Int):D:=apD (.tup [.str "fun",natD,bdD ws a c]) (oD p q)
variable {ws:List Nat} {a c p q:Int} {k:Nat}
theorem One.wb (h:One ws a c p q):wfG isStrD false (bdD ws a c)=true:=wf_rndL (wf_ap (wf_varA h.a0) (wf_varA h.c0)) ws
theorem One.wo (h:One ws a c p q):wfG isStrD false (oD p q)=true:=wf_ap (wf_varA h.p0) (wf_rnd (wf_varA h.q0) 6)
theorem One.w1 (h:One ws a c p q):wfG isStrD false (oneD ws a c p q)=true:=wf_ap (wf_rnd h.wb 3) h.wo
theorem o_dp (p q:Int):depth (oD p q)=3:=by simp [oD,apD,nxD,vrD,depth,depthL]
theorem one_dp:depth (oneD ws a c p q)=1+max (1+max 1 (depth (bdD ws a c))) 3:=by
  have:=o_dp p q
  simp only [oneD,apD,natD,depth,depthL]
  omega
theorem step_one (h:One ws a c p q) (hd:depth (rndL (nx6 k) (oneD ws a c p q))≤40) :
    fstD inb (rndL (nx6 k) (oneD ws a c p q))=some (List.replicate k 0,Str.ofString "fun")∧StOk inb (rndL (nx6 k) (oneD ws a c p q)) (toI (List.replicate k 0)) "fun" (pinD (oD p q) 0 (bdD ws a c)) (greatD (pinD (oD p q) 0 (bdD ws a c))) ∧
    putD (rndL (nx6 k) (oneD ws a c p q)) (toI (List.replicate k 0)) (pinD (oD p q) 0 (bdD ws a c))=rndL (nx6 k) (pinD (oD p q) 0 (bdD ws a c))∧depth (rndL (nx6 k) (pinD (oD p q) 0 (bdD ws a c)))≤50∧wfG isStrD false (pinD (oD p q) 0 (bdD ws a c))=true:=by
  rw [nx6_dp,one_dp] at hd
  have hdb:depth (bdD ws a c)<58:=by omega
  obtain ⟨k1,_,k3,_⟩:=pin_keeps (at_:=0) (Int.le_refl 0) h.wo (by rw [o_dp]; decide) 58 0 (bdD ws a c) false (Int.le_refl 0) hdb h.wb
  rw [o_dp] at k3
  have ep:putD (rndL (nx6 k) (oneD ws a c p q)) (toI (List.replicate k 0)) (pinD (oD p q) 0 (bdD ws a c))=rndL (nx6 k) (pinD (oD p q) 0 (bdD ws a c)):=by
    have:=put_rndL (d:=oneD ws a c p q) (e:=pinD (oD p q) 0 (bdD ws a c)) [] (nx6 k) (nx6_ok k)
    rw [path_nx,List.append_nil] at this
    exact this
  have eg:goto (rndL (nx6 k) (oneD ws a c p q)) (toI (List.replicate k 0))=some (oneD ws a c p q):=by
    have:=goto_rndL (d:=oneD ws a c p q) [] (nx6 k) (nx6_ok k)
    rw [path_nx,List.append_nil] at this
    exact this
  have dpT:depth (rndL (nx6 k) (pinD (oD p q) 0 (bdD ws a c)))≤50:=by
    rw [nx6_dp]
    have:depth (pinD (oD p q) 0 (bdD ws a c))≤depth (bdD ws a c)+3:=k3
    omega
  refine ⟨?_,⟨⟨_,eg,⟨_,h.w1⟩,by kernel_rfl,.inl ⟨rfl,natD,_,_,rfl,⟨_,h.wb⟩,⟨_,h.wo⟩,hdb,by rw [o_dp]; decide,rfl,rfl,⟨⟨_,k1⟩,?_,Nat.zero_le _⟩⟩⟩,⟨_,wf_rndL h.w1 _⟩,?_,?_⟩,ep,dpT,k1⟩
  · rw [fst_rndL (nx6 k) (nx6_ok k),path_nx]
    have e1:fstD inb (oneD ws a c p q)=some ([],Str.ofString "fun"):=by
      show fstD inb (.tup [.str "app",.tup [.str "fun",natD,bdD ws a c],oD p q])=_
      rw [fstD_eq,show ruleS inb (.tup [.str "app",.tup [.str "fun",natD,bdD ws a c],oD p q])=some (Str.ofString "fun") by kernel_rfl]
    rw [e1]
    show some (List.replicate k 0++[],Str.ofString "fun")=_
    rw [List.append_nil]
  · have:depth (pinD (oD p q) 0 (bdD ws a c))≤depth (bdD ws a c)+3:=k3
    omega
  · show (List.map _ (List.replicate k 0)).length<100
    rw [List.length_map,List.length_replicate]
    omega
  · rw [ep]
    exact ⟨⟨_,wf_rndL k1 _⟩,by omega,Nat.zero_le _⟩
theorem run_on (h:One ws a c p q) (hd:depth (rndL (nx6 k) (oneD ws a c p q))≤40) :
    ∃ (rs:List Sp2) (res:Option D),Run inb res rs (rndL (nx6 k) (oneD ws a c p q))∧rs.length≤2∧(res=none∨∃ r,rs=(List.replicate k 0,Str.ofString "fun")::r):=by
  obtain ⟨e1,ok,ep,dp,wp⟩:=step_one (inb:=inb) h hd
  by_cases hg:(greatD (pinD (oD p q) 0 (bdD ws a c)) || greatD (rndL (nx6 k) (pinD (oD p q) 0 (bdD ws a c))))=true
  · exact ⟨[],none,.inr ⟨rfl,_,_,_,e1,ok,by show (_ || greatD (putD _ (toI (List.replicate k 0)) _))=true; rw [ep]; exact hg⟩,by decide,.inl rfl⟩
  have hg:(greatD (pinD (oD p q) 0 (bdD ws a c)) || greatD (rndL (nx6 k) (pinD (oD p q) 0 (bdD ws a c))))=false:=Bool.eq_false_iff.mpr hg
  have hdb:depth (bdD ws a c)<58:=by rw [nx6_dp,one_dp] at hd; omega
  obtain ⟨A,C,ef,vA,vC⟩:=pin_form (p:=p) (q:=q) hdb
  have hb:fstD inb (apD A C)=none:=fst_ap (vA.f inb) vA.h (vC.f inb)
  have eT:rndL (nx6 k) (pinD (oD p q) 0 (bdD ws a c))=rndL (nx6 k++ws) (apD A C):=by
    rw [rndL_app]
    exact congrArg _ ef
  have cons:∀ (rs:List Sp2) (res:Option D),Run inb res rs (rndL (nx6 k++ws) (apD A C))→Run inb res ((List.replicate k 0,Str.ofString "fun")::rs) (rndL (nx6 k) (oneD ws a c p q)):=fun rs res hr=>by
    refine ⟨_,_,e1,ok,?_,?_⟩
    · show (_ || greatD (putD _ (toI (List.replicate k 0)) _))=false
      rw [ep]
      exact hg
    · show Run inb res rs (putD _ (toI (List.replicate k 0)) _)
      rw [ep,eT]
      exact hr
  have wA:wfG isStrD false (rndL (nx6 k++ws) (apD A C))=true:=by rw [← eT]; exact wf_rndL wp _
  have dA:depth (rndL (nx6 k++ws) (apD A C))≤50:=by rw [← eT]; exact dp
  rcases split0 (nx6 k++ws) with h0 | ⟨v1,v2,ev,h0⟩
  · refine ⟨_,_,cons [] _ (.inl ⟨?_,rfl⟩),(by show 1≤2; decide),.inr ⟨_,rfl⟩⟩
    rw [fst_rndL _ h0,hb]
    rfl
  · rw [ev,rndL_app] at wA dA
    have wA':wfG isStrD false (rndL v1 (rnd 0 (rndL v2 (apD A C))))=true:=wA
    have dA':depth (rndL v1 (rnd 0 (rndL v2 (apD A C))))≤50:=dA
    have e2:fstD inb (rndL v1 (rnd 0 (rndL v2 (apD A C))))=some (path v1,Str.ofString "zero"):=by
      rw [fst_rndL _ h0,fst_rec]
      show some (path v1++[],Str.ofString "zero")=_
      rw [List.append_nil]
    have eg:goto (rndL v1 (rnd 0 (rndL v2 (apD A C)))) (toI (path v1))=some (rnd 0 (rndL v2 (apD A C))):=by
      have:=goto_rndL (d:=rnd 0 (rndL v2 (apD A C))) [] v1 h0
      rw [List.append_nil] at this
      exact this
    have e3:putD (rndL v1 (rnd 0 (rndL v2 (apD A C)))) (toI (path v1)) zeroD=rndL v1 zeroD:=by
      have:=put_rndL (d:=rnd 0 (rndL v2 (apD A C))) (e:=zeroD) [] v1 h0
      rw [List.append_nil] at this
      exact this
    have wg:Wf (rnd 0 (rndL v2 (apD A C))):=wf_goto ⟨_,wA'⟩ eg
    have dz:depth (rndL v1 zeroD)≤51:=by
      have:=(put_size (toI (path v1)) _ ⟨_,wA'⟩ eg (e:=zeroD)).2
      rw [e3] at this
      have z1:depth zeroD=1:=by decide +kernel
      omega
    have lp:(path v1).length<100:=by
      have:=(fst_len inb _ _ e2).1
      have:(path v1).length<depth (rndL v1 (rnd 0 (rndL v2 (apD A C)))):=this
      omega
    have ok2:StOk inb (rndL v1 (rnd 0 (rndL v2 (apD A C)))) (toI (path v1)) "zero" zeroD false:=by
      refine ⟨⟨_,eg,wg,by kernel_rfl,.inr ⟨rfl,rfl,smD (rndL v2 (apD A C)),zeroD,zeroD,rfl⟩⟩,⟨_,wA'⟩,?_,?_⟩
      · show (List.map _ (path v1)).length<100
        rw [List.length_map]
        exact lp
      · rw [e3]
        exact ⟨⟨_,wf_rndL wf_zero v1⟩,by omega,Nat.zero_le _⟩
    have cons':∀ (rs:List Sp2) (res:Option D),Run inb res rs (rndL v1 (rnd 0 (rndL v2 (apD A C))))→Run inb res ((List.replicate k 0,Str.ofString "fun")::rs) (rndL (nx6 k) (oneD ws a c p q)):=fun rs res hr=>cons rs res (by rw [ev,rndL_app]; exact hr)
    by_cases hg2:greatD (rndL v1 zeroD)=true
    · exact ⟨_,none,cons' [] none (.inr ⟨rfl,_,_,_,e2,ok2,by show (false || greatD (putD _ (toI (path v1)) _))=true; rw [e3]; exact hg2⟩),(by show 1≤2; decide),.inl rfl⟩
    · refine ⟨_,_,cons' [(path v1,Str.ofString "zero")] (some (rndL v1 zeroD)) ⟨_,_,e2,ok2,?_,?_⟩,(by show 2≤2; decide),.inr ⟨_,rfl⟩⟩
      · show (false || greatD (putD _ (toI (path v1)) _))=false
        rw [e3]
        exact Bool.eq_false_iff.mpr hg2
      · show Run inb _ [] (putD _ (toI (path v1)) _)
        rw [e3]
        refine .inl ⟨?_,rfl⟩
        rw [fst_rndL _ h0,fst_zero]
        rfl
end K27
end
section
set_option maxHeartbeats 4000000
namespace K27
open PySem L2 L3 KM PyProof.Rows
seal L2.PE L2.PS L2.PSs L2.PT L2.PW L2.PA L2.PG L2.PGs L2.PI L2.PC L2.PO L2.PPs L2.PK L3.PIf L3.PH L3.PB
variable {P:Program} {w:World} {K:PySem.W.Frag} {mg:Str→Option Value} {base:Heap} {t:Adr}
theorem rep_tup {H:Hp} {p:Addr} {x:Str} {ds:List D} {vs:List V} (h:H p=some (.tup (.str x::vs))) (hx:x.length≤1000) (r:Reps H ds vs):Rep H (.tup (.str x::ds)) (.ref p):=⟨p,_,rfl,h,_,_,rfl,⟨rfl,hx⟩,r⟩
theorem reps1 {H:Hp} {d:D} {v:V} (h:Rep H d v):Reps H [d] [v]:=⟨v,[],rfl,h,rfl⟩
theorem reps2 {H:Hp} {d e:D} {v u:V} (h:Rep H d v) (h2:Rep H e u):Reps H [d,e] [v,u]:=⟨v,[u],rfl,h,reps1 h2⟩
theorem reps3 {H:Hp} {d e f:D} {v u x:V} (h:Rep H d v) (h2:Rep H e u) (h3:Rep H f x):Reps H [d,e,f] [v,u,x]:=⟨v,[u,x],rfl,h,reps2 h2 h3⟩
theorem reps4 {H:Hp} {d e f g:D} {v u x y:V} (h:Rep H d v) (h2:Rep H e u) (h3:Rep H f x) (h4:Rep H g y):Reps H [d,e,f,g] [v,u,x,y]:=⟨v,[u,x,y],rfl,h,reps3 h2 h3 h4⟩
theorem leaf_new {H:Hp} {p:Addr} (x:Str) (hp:H p=none) (hx:x.length≤1000):Same H (upd H p (.tup [V.str x]))∧Rep (upd H p (.tup [V.str x])) (.tup [.str x]) (.ref p):=⟨same_new hp _,rep_tup upd_same hx rfl⟩
def spRnd:Sp:=fun vs H Q _=>∃ (w:Nat) (d:D) (v:V),vs=[.int (w:Nat),v]∧w<8∧Rep H d v∧∀ (u:V) (H':Hp),Same H H'→Rep H' (rnd w d) u→Q u H'
theorem ieq (a b:Nat):decide (V.int ((a:Nat):Int)=V.int ((b:Nat):Int))=decide (a=b):=by
  by_cases h:a=b
  · rw [h]; simp
  · rw [decide_eq_false h]
    exact decide_eq_false fun q=>h (by injection q with q; omega)
theorem sc_law_round:FnScope ["_law_way", "_law_thing", "_law_kind"] ["_law_way", "_law_thing"] (defScope s_law_round):=⟨rfl,rfl,rfl,by decide +kernel,rfl,by decide +kernel,by decide +kernel⟩
theorem c_law_round (D:Df K mg "_law_round" s_law_round ["_law_way", "_law_thing"]) (M:Mg mg t):Cal P w K mg CX0 "_law_round" (1) ["_law_way", "_law_thing"] spRnd:=by
  refine D.ok sc_law_round (fun vs H Q E h=>?_) (fun base f cdv A outer s H vs Q E hr h=>?_)
  · obtain ⟨w,d,v,rfl,_⟩:=h
    rfl
  obtain ⟨w,d,v,rfl,hw,r,q⟩:=h
  refine ⟨_,(pss_cons (ps_set (i:=2) sc_law_round.nd rfl (by first | exact Or.inl rfl | exact Or.inr rfl) (pe_tup (pa_cons pe_str (pa_cons (pe_tup (pa_cons pe_str pa_nil)) (pa_cons (pv 1) (pa_cons (pe_tup (pa_cons pe_str pa_nil)) pa_nil))))))
      (pss_cons (ps_if (pt_cmpR op_eq (pv 0) pe_int (nomark _)) (pss_one (ps_ret (pe_tup (pa_cons pe_str (pa_cons (pv 2) (pa_cons (pe_tup (pa_cons pe_str pa_nil)) (pa_cons (pe_tup (pa_cons pe_str pa_nil)) (pa_cons (pe_tup (pa_cons pe_str pa_nil)) pa_nil)))))))) pss_nil)
      (pss_cons (ps_if (pt_cmpR op_eq (pv 0) pe_int (nomark _)) (pss_one (ps_ret (pe_tup (pa_cons pe_str (pa_cons (pv 2) (pa_cons (pe_tup (pa_cons pe_str pa_nil)) (pa_cons (pe_tup (pa_cons pe_str pa_nil)) pa_nil))))))) pss_nil)
      (pss_cons (ps_if (pt_cmpR op_eq (pv 0) pe_int (nomark _)) (pss_one (ps_ret (pe_tup (pa_cons pe_str (pa_cons (pe_tup (pa_cons pe_str (pa_cons (pe_tup (pa_cons pe_str pa_nil)) (pa_cons (pv 2) pa_nil)))) (pa_cons (pe_tup (pa_cons pe_str pa_nil)) pa_nil)))))) pss_nil)
      (pss_cons (ps_if (pt_cmpR op_lt (pv 0) pe_int (nomark _)) (pss_one (ps_ret (pe_tup (pa_cons pe_str (pa_cons (pe_tup (pa_cons pe_str pa_nil)) (pa_cons (pv 1) pa_nil)))))) pss_nil)
      (pss_one (ps_ret (pe_ix ix_list (pe_lst (pa_cons (pe_tup (pa_cons pe_str (pa_cons (pv 1) pa_nil))) (pa_cons (pe_tup (pa_cons pe_str (pa_cons (pe_tup (pa_cons pe_str pa_nil)) (pa_cons (pe_tup (pa_cons pe_str pa_nil)) (pa_cons (pv 1) pa_nil))))) pa_nil))) (pe_op op_sub (pv 0) pe_int) (fun _ _=>rfl))))))))),?_⟩
  try dsimp only [cxK,cxK2]
  refine let6 ?_
  intro _ _ _ _ _ _
  have wn:∀ {k:Nat},decide (V.int ((w:Nat):Int)=V.int ((k:Nat):Int))=true→w=k:=fun h=>by rw [ieq] at h; exact of_decide_eq_true h
  have wy:∀ {k:Nat},¬ decide (V.int ((w:Nat):Int)=V.int ((k:Nat):Int))=true→w≠k:=fun h e=>h (by rw [e]; exact decide_eq_true rfl)
  have ln:(Str.ofString "nat").length≤1000:=by decide +kernel
  have lz:(Str.ofString "zero").length≤1000:=by decide +kernel
  refine ⟨(by show 1≤sizeLine; decide),fun p1 hp1=>?_⟩
  obtain ⟨t1,r1⟩:=leaf_new "nat" hp1 ln
  generalize upd H p1 (.tup [V.str "nat"])=H1 at t1 r1 ⊢
  refine ⟨_,rfl,(by show 1≤sizeLine; decide),fun p2 hp2=>?_⟩
  obtain ⟨t2,r2⟩:=leaf_new "zero" hp2 lz
  generalize upd H1 p2 (.tup [V.str "zero"])=H2 at t2 r2 ⊢
  refine ⟨(by show 4≤sizeLine; decide),fun p3 hp3=>?_⟩
  have t3:=same_new hp3 (.tup [V.str "same",.ref p1,v,.ref p2])
  have t12:=t1.trans t2
  have r3:Rep (upd H2 p3 (.tup [V.str "same",.ref p1,v,.ref p2])) (smD d) (.ref p3):=rep_tup upd_same (by decide +kernel) (reps3 (r1.mono (t2.trans t3)) (r.mono (t12.trans t3)) (r2.mono t3))
  have s3:=t12.trans t3
  generalize upd H2 p3 (.tup [V.str "same",.ref p1,v,.ref p2])=H3 at s3 r3 ⊢
  have r0:=r.mono s3
  clear t1 t2 t3 t12 r1 r2
  refine ⟨_,rfl,rfl,_,rfl,ite2 (fun c=>?_) (fun c0=>?_)⟩
  · have e:=wn (k:=0) c
    subst e
    refine ⟨_,rfl,(by show 1≤sizeLine; decide),fun a1 ha1=>?_⟩
    obtain ⟨u1,z1⟩:=leaf_new "zero" ha1 lz
    generalize upd H3 a1 (.tup [V.str "zero"])=G1 at u1 z1 ⊢
    refine ⟨(by show 1≤sizeLine; decide),fun a2 ha2=>?_⟩
    obtain ⟨u2,z2⟩:=leaf_new "zero" ha2 lz
    generalize upd G1 a2 (.tup [V.str "zero"])=G2 at u2 z2 ⊢
    refine ⟨(by show 1≤sizeLine; decide),fun a3 ha3=>?_⟩
    obtain ⟨u3,z3⟩:=leaf_new "zero" ha3 lz
    generalize upd G2 a3 (.tup [V.str "zero"])=G3 at u3 z3 ⊢
    refine ⟨(by show 5≤sizeLine; decide),fun a4 ha4=>?_⟩
    have u4:=same_new ha4 (.tup [V.str "rec",.ref p3,.ref a1,.ref a2,.ref a3])
    exact q _ _ (s3.trans (u1.trans (u2.trans (u3.trans u4)))) (rep_tup upd_same (by decide +kernel) (reps4 (r3.mono (u1.trans (u2.trans (u3.trans u4)))) (z1.mono (u2.trans (u3.trans u4))) (z2.mono (u3.trans u4)) (z3.mono u4)))
  have n0:=wy (k:=0) c0
  refine ⟨_,rfl,rfl,_,rfl,ite2 (fun c=>?_) (fun c1=>?_)⟩
  · have e:=wn (k:=1) c
    subst e
    refine ⟨_,rfl,(by show 1≤sizeLine; decide),fun a1 ha1=>?_⟩
    obtain ⟨u1,z1⟩:=leaf_new "zero" ha1 lz
    generalize upd H3 a1 (.tup [V.str "zero"])=G1 at u1 z1 ⊢
    refine ⟨(by show 1≤sizeLine; decide),fun a2 ha2=>?_⟩
    obtain ⟨u2,z2⟩:=leaf_new "zero" ha2 lz
    generalize upd G1 a2 (.tup [V.str "zero"])=G2 at u2 z2 ⊢
    refine ⟨(by show 4≤sizeLine; decide),fun a4 ha4=>?_⟩
    have u4:=same_new ha4 (.tup [V.str "carry",.ref p3,.ref a1,.ref a2])
    exact q _ _ (s3.trans (u1.trans (u2.trans u4))) (rep_tup upd_same (by decide +kernel) (reps3 (r3.mono (u1.trans (u2.trans u4))) (z1.mono (u2.trans u4)) (z2.mono u4)))
  have n1:=wy (k:=1) c1
  refine ⟨_,rfl,rfl,_,rfl,ite2 (fun c=>?_) (fun c2=>?_)⟩
  · have e:=wn (k:=2) c
    subst e
    refine ⟨(by show 1≤sizeLine; decide),fun a1 ha1=>?_⟩
    obtain ⟨u1,z1⟩:=leaf_new "nat" ha1 ln
    generalize upd H3 a1 (.tup [V.str "nat"])=G1 at u1 z1 ⊢
    refine ⟨_,rfl,(by show 3≤sizeLine; decide),fun a2 ha2=>?_⟩
    have u2:=same_new ha2 (.tup [V.str "all",.ref a1,.ref p3])
    have z2:Rep (upd G1 a2 (.tup [V.str "all",.ref a1,.ref p3])) (.tup [.str "all",natD,smD d]) (.ref a2):=rep_tup upd_same (by decide +kernel) (reps2 (z1.mono u2) (r3.mono (u1.trans u2)))
    generalize upd G1 a2 (.tup [V.str "all",.ref a1,.ref p3])=G2 at u2 z2 ⊢
    refine ⟨(by show 1≤sizeLine; decide),fun a3 ha3=>?_⟩
    obtain ⟨u3,z3⟩:=leaf_new "zero" ha3 lz
    generalize upd G2 a3 (.tup [V.str "zero"])=G3 at u3 z3 ⊢
    refine ⟨(by show 3≤sizeLine; decide),fun a4 ha4=>?_⟩
    have u4:=same_new ha4 (.tup [V.str "like",.ref a2,.ref a3])
    exact q _ _ (s3.trans (u1.trans (u2.trans (u3.trans u4)))) (rep_tup upd_same (by decide +kernel) (reps2 (z2.mono (u3.trans u4)) (z3.mono u4)))
  have n2:=wy (k:=2) c2
  refine ⟨_,rfl,_,_,rfl,rfl,_,rfl,ite2 (fun c=>?_) (fun c=>?_)⟩
  · have c:((w:Nat):Int)<6:=of_decide_eq_true c
    have e:w=3∨w=4∨w=5:=by omega
    refine ⟨(by show 1≤sizeLine; decide),fun a1 ha1=>?_⟩
    obtain ⟨u1,z1⟩:=leaf_new "nat" ha1 ln
    generalize upd H3 a1 (.tup [V.str "nat"])=G1 at u1 z1 ⊢
    refine ⟨_,rfl,(by show 3≤sizeLine; decide),fun a2 ha2=>?_⟩
    have u2:=same_new ha2 (.tup [V.str "fun",.ref a1,v])
    refine q _ _ (s3.trans (u1.trans u2)) ?_
    have z:Rep (upd G1 a2 (.tup [V.str "fun",.ref a1,v])) (.tup [.str "fun",natD,d]) (.ref a2):=rep_tup upd_same (by decide +kernel) (reps2 (z1.mono u2) (r0.mono (u1.trans u2)))
    rcases e with rfl | rfl | rfl <;> exact z
  · have c:¬ ((w:Nat):Int)<6:=of_decide_eq_false (Bool.eq_false_iff.mpr c)
    refine ⟨_,rfl,(by show 2≤sizeLine; decide),fun a1 ha1=>?_⟩
    have u1:=same_new ha1 (.tup [V.str "next",v])
    have z1:Rep (upd H3 a1 (.tup [V.str "next",v])) (rnd 6 d) (.ref a1):=rep_tup upd_same (by decide +kernel) (reps1 (r0.mono u1))
    generalize upd H3 a1 (.tup [V.str "next",v])=G1 at u1 z1 ⊢
    refine ⟨(by show 1≤sizeLine; decide),fun a2 ha2=>?_⟩
    obtain ⟨u2,z2⟩:=leaf_new "nat" ha2 ln
    generalize upd G1 a2 (.tup [V.str "nat"])=G2 at u2 z2 ⊢
    refine ⟨(by show 1≤sizeLine; decide),fun a3 ha3=>?_⟩
    obtain ⟨u3,z3⟩:=leaf_new "zero" ha3 lz
    generalize upd G2 a3 (.tup [V.str "zero"])=G3 at u3 z3 ⊢
    refine ⟨_,rfl,(by show 4≤sizeLine; decide),fun a4 ha4=>?_⟩
    have u4:=same_new ha4 (.tup [V.str "pair",.ref a2,.ref a3,v])
    have u14:=u2.trans (u3.trans u4)
    have z4:Rep (upd G3 a4 (.tup [V.str "pair",.ref a2,.ref a3,v])) (rnd 7 d) (.ref a4):=rep_tup upd_same (by decide +kernel) (reps3 (z2.mono (u3.trans u4)) (z3.mono u4) (r0.mono (u1.trans u14)))
    generalize upd G3 a4 (.tup [V.str "pair",.ref a2,.ref a3,v])=G4 at u4 u14 z4 ⊢
    refine ⟨(by show 2≤sizeLine; decide),fun a5 ha5=>?_⟩
    have u5:=same_new ha5 (.lst [V.ref a1,.ref a4])
    have h5:(upd G4 a5 (.lst [V.ref a1,.ref a4])) a5=some (.lst [V.ref a1,.ref a4]):=upd_same
    generalize upd G4 a5 (.lst [V.ref a1,.ref a4])=G5 at u5 h5 ⊢
    have sA:=s3.trans (u1.trans (u14.trans u5))
    have e:w=6∨w=7:=by omega
    refine ⟨_,rfl,_,_,rfl,rfl,?_⟩
    rcases e with rfl | rfl
    · exact ⟨a5,_,_,_,rfl,rfl,SqL.of h5,atI_nat (j:=0) rfl,q _ _ sA (z1.mono (u14.trans u5))⟩
    · exact ⟨a5,_,_,_,rfl,rfl,SqL.of h5,atI_nat (j:=1) rfl,q _ _ sA (z4.mono u5)⟩
end K27
end
section
set_option maxHeartbeats 4000000
namespace K27
open PySem L2 L3 KM PyProof.Rows
seal L2.PE L2.PS L2.PSs L2.PT L2.PW L2.PA L2.PG L2.PGs L2.PI L2.PC L2.PO L2.PPs L2.PK L3.PIf L3.PH L3.PB
variable {P:Program} {w:World} {K:PySem.W.Frag} {mg:Str→Option Value} {base:Heap} {t:Adr}
theorem dp_rnd3 (d:D) (h:1≤depth d) (w:Nat):depth (rnd w d)≤depth d+3:=by
  revert w
  refine rnd_cases ?_ ?_ ?_ ?_ ?_ (fun w e1 _ _=>?_)
  all_goals first | rw [e1] | skip
  all_goals simp only [rnd,smD,natD,zeroD,depth,depthL]; omega
theorem dp_rnd3L (d:D) (h:1≤depth d):∀ ws:List Nat,depth (rndL ws d)≤depth d+3*ws.length
  | []=>Nat.le_refl _
  | w::ws=>by
    have h1:=dp_rnd3L d h ws
    have h2:=dp_rndL d ws
    have h3:=dp_rnd3 (rndL ws d) (by omega) w
    show depth (rnd w (rndL ws d))≤depth d+3*(ws.length+1)
    omega
structure Ta (K:PySem.W.Frag) (a p:Addr) (ns:List Int) (H0 H:Hp) (n:Int):Prop where
  x:SameX p H0 H
  t:∃ i,i<n∧Tp K a p ns H i
theorem Ta.mono {a p:Addr} {ns:List Int} {H0 H H':Hp} {n:Int} (h:Ta K a p ns H0 H n) (s:Same H H'):Ta K a p ns H0 H' n:=by
  obtain ⟨i,hi,T⟩:=h.t
  exact ⟨h.x.trans s.x,i,hi,T.mono s⟩
theorem Ta.rep {a p:Addr} {ns:List Int} {H0 H H':Hp} {n:Int} (h:Ta K a p ns H0 H n) {d:D} {v:V} (x:SameX p H H') (r:Rep H d v):Rep H' d v:=by
  obtain ⟨i,hi,T⟩:=h.t
  exact T.rep x r
theorem draw_ta {H0 H:Hp} {Q:VK} {E:XK} {a p:Addr} {ns:List Int} {n m:Int} (h:Ta K a p ns H0 H n) (hn:n<2 ^ 59) (hm:0<m) (q:∀ (z:Int) (H':Hp),0≤z→z<m→SameX p H H'→Ta K a p ns H0 H' (n+1)→Q (.int z) H'):spDraw K [.ref a,.ref p,.int m] H Q E:=by
  obtain ⟨i,hi,T⟩:=h.t
  refine ⟨a,p,ns,i,m,rfl,T,by omega,hm,fun z H' z0 z1 x e=>q z H' z0 z1 x ⟨h.x.trans x,i+1,by omega,T.next x e (by have:=T.i0; omega)⟩⟩
theorem Ta.to {a p:Addr} {ns:List Int} {H0 H1 H2:Hp} {n m i:Int} (h:Ta K a p ns H0 H1 n) (x:SameX p H1 H2) (e:H2 p=some (.lst [.int i])) (i0:0≤i) (i1:i<m):Ta K a p ns H0 H2 m:=by
  obtain ⟨j,_,T⟩:=h.t
  exact ⟨h.x.trans x,i,i1,T.next x e i0⟩
theorem Ta.up {a p:Addr} {ns:List Int} {H0 H1:Hp} {n m:Int} (h:Ta K a p ns H0 H1 n) (hm:n≤m):Ta K a p ns H0 H1 m:=by
  obtain ⟨j,hj,T⟩:=h.t
  exact ⟨h.x,j,by omega,T⟩
theorem samex_upd {H H2:Hp} {p b:Addr} {o:HO} (h:SameX p H H2) (hb:H b=none):SameX p H (upd H2 b o):=fun c u nc q=>by rw [upd_ne (ne_of_none q hb)]; exact h c u nc q
def spDeep (K:PySem.W.Frag):Sp:=fun vs H Q _=>∃ (a p:Addr) (ns:List Int),vs=[.ref a,.ref p]∧Ta K a p ns H H 10∧∀ (v:V) (H':Hp),Ta K a p ns H H' 100→(Rep H' zeroD v∨∃ (ws:List Nat) (x y z u:Int),One ws x y z u∧greatD (oneD ws x y z u)=false∧Rep H' (oneD ws x y z u) v)→Q v H'
seal spDraw
theorem sc_law_deep:FnScope ["_law_script", "_law_tape", "_law_ways", "_law_binders", "_law_number", "_law_body", "_law_way", "_law_far", "_law_other", "_law_made"] ["_law_script", "_law_tape"] (defScope s_law_deep):=⟨rfl,rfl,rfl,by decide +kernel,rfl,by decide +kernel,by decide +kernel⟩
theorem c_law_deep (D:Df K mg "_law_deep" s_law_deep ["_law_script", "_law_tape"]) (M:Mg mg t) (F_law_draw:Cal P w K mg CX0 "_law_draw" (1) ["_law_script", "_law_tape", "_law_many"] (spDraw K)) (F_law_round:Cal P w K mg CX0 "_law_round" (1) ["_law_way", "_law_thing"] spRnd) (F_law_great:Cal P w K mg CX0 "_law_great" (225) ["_law_thing"] (spGreat 93)):Cal P w K mg CX0 "_law_deep" (226) ["_law_script", "_law_tape"] (spDeep K):=by
  refine D.ok sc_law_deep (fun vs H Q E h=>?_) (fun base f cdv A outer s H vs Q E hr h=>?_)
  · obtain ⟨a,p,ns,rfl,_⟩:=h
    rfl
  obtain ⟨a,p,ns,rfl,T0,q⟩:=h
  refine ⟨_,(pss_cons (ps_setC (ix:=2) (N':=["_law_k", "_law_script", "_law_tape"]) (own:=1) (fr:=[0,1]) sc_law_deep.nd rfl rfl rfl (blk_of (N:=["_law_script", "_law_tape", "_law_ways", "_law_binders", "_law_number", "_law_body", "_law_way", "_law_far", "_law_other", "_law_made"]) (sc:=defScope s_law_deep) rfl rfl rfl (by decide +kernel)) (pi_range1 rfl M.n_range (pa_cons (pe_fn F_law_draw (hr.mono (by omega)) rfl pass0 (pa_cons (pv 0) (pa_cons (pv 1) (pa_cons pe_int pa_nil)))) pa_nil)) (own_name (by decide)) (fun _ _ _=>(pg_name (i:=0) (show List.Nodup (["_law_k", "_law_script", "_law_tape"]:List Str) by decide +kernel) rfl (Or.inl rfl))) (fun _ _ _=>pif_nil) (fun _ _ _=>(pe_fn F_law_draw (hr.mono (by omega)) rfl pass0 (pa_cons (pv 1) (pa_cons (pv 2) (pa_cons pe_int pa_nil))))))
      (pss_cons (ps_set (i:=3) sc_law_deep.nd rfl (by first | exact Or.inl rfl | exact Or.inr rfl) (pe_callB call_len_seq rfl M.n_len bt_len (pa_cons (pe_comp (N':=["_law_way"]) (own:=1) (fr:=[]) rfl (blk_of (N:=["_law_script", "_law_tape", "_law_ways", "_law_binders", "_law_number", "_law_body", "_law_way", "_law_far", "_law_other", "_law_made"]) (sc:=defScope s_law_deep) rfl rfl rfl (by decide +kernel)) (pi_list (pv 2)) (own_name (by decide)) (fun _ _ _=>(pg_name (i:=0) (show List.Nodup (["_law_way"]:List Str) by decide +kernel) rfl (Or.inl rfl))) (fun _ _ _=>(pif_one (pt_cmpR op_lt (pv 0) pe_int (nomark _)))) (fun _ _ _=>(pv 0))) pa_nil)))
      (pss_cons (ps_set (i:=4) sc_law_deep.nd rfl (by first | exact Or.inl rfl | exact Or.inr rfl) (pe_ix ix_list (pe_lst (pa_cons (pv 3) (pa_cons (pe_fn F_law_draw (hr.mono (by omega)) rfl pass0 (pa_cons (pv 0) (pa_cons (pv 1) (pa_cons (pe_op op_add (pv 3) pe_int) pa_nil)))) pa_nil))) (pe_fn F_law_draw (hr.mono (by omega)) rfl pass0 (pa_cons (pv 0) (pa_cons (pv 1) (pa_cons pe_int pa_nil)))) (fun _ _=>rfl)))
      (pss_cons (ps_set (i:=5) sc_law_deep.nd rfl (by first | exact Or.inl rfl | exact Or.inr rfl) (pe_tup (pa_cons pe_str (pa_cons (pe_tup (pa_cons pe_str (pa_cons (pv 4) pa_nil))) (pa_cons (pe_tup (pa_cons pe_str (pa_cons (pe_fn F_law_draw (hr.mono (by omega)) rfl pass0 (pa_cons (pv 0) (pa_cons (pv 1) (pa_cons (pe_op op_add (pv 3) pe_int) pa_nil)))) pa_nil))) pa_nil)))))
      (pss_cons (ps_for PassesOwn.never rfl (pi_list (pv 2)) (pg_name (i:=6) sc_law_deep.nd rfl (by first | exact Or.inl rfl | exact Or.inr rfl)) (pss_one (ps_set (i:=5) sc_law_deep.nd rfl (by first | exact Or.inl rfl | exact Or.inr rfl) (pe_fn F_law_round (hr.mono (by omega)) rfl pass0 (pa_cons (pv 6) (pa_cons (pv 5) pa_nil))))))
      (pss_cons (ps_set (i:=7) sc_law_deep.nd rfl (by first | exact Or.inl rfl | exact Or.inr rfl) (pe_ix ix_list (pe_lst (pa_cons pe_int (pa_cons pe_int pa_nil))) (pe_fn F_law_draw (hr.mono (by omega)) rfl pass0 (pa_cons (pv 0) (pa_cons (pv 1) (pa_cons pe_int pa_nil)))) (fun _ _=>rfl)))
      (pss_cons (ps_set (i:=8) sc_law_deep.nd rfl (by first | exact Or.inl rfl | exact Or.inr rfl) (pe_tup (pa_cons pe_str (pa_cons (pe_tup (pa_cons pe_str (pa_cons (pe_fn F_law_draw (hr.mono (by omega)) rfl pass0 (pa_cons (pv 0) (pa_cons (pv 1) (pa_cons (pv 7) pa_nil)))) pa_nil))) (pa_cons (pe_tup (pa_cons pe_str (pa_cons (pe_tup (pa_cons pe_str (pa_cons (pe_fn F_law_draw (hr.mono (by omega)) rfl pass0 (pa_cons (pv 0) (pa_cons (pv 1) (pa_cons (pv 7) pa_nil)))) pa_nil))) pa_nil))) pa_nil)))))
      (pss_cons (ps_set (i:=9) sc_law_deep.nd rfl (by first | exact Or.inl rfl | exact Or.inr rfl) (pe_tup (pa_cons pe_str (pa_cons (pe_tup (pa_cons pe_str (pa_cons (pe_tup (pa_cons pe_str pa_nil)) (pa_cons (pv 5) pa_nil)))) (pa_cons (pv 8) pa_nil)))))
      (pss_cons (ps_if (pt_val (pe_fn F_law_great (hr.mono (by omega)) rfl pass0 (pa_cons (pv 9) pa_nil))) (pss_one (ps_ret (pe_tup (pa_cons pe_str pa_nil)))) pss_nil)
      (pss_one (ps_ret (pv 9)))))))))))),?_⟩
  try dsimp only [cxK,cxK2]
  refine let10 ?_
  intro _ _ _ _ _ _ _ _ _ _
  refine ⟨_,rfl,_,rfl,draw_ta T0 (by decide) (by decide) fun z0 H1 z00 z01 x1 T1=>?_⟩
  obtain ⟨m,rfl⟩:∃ m:Nat,z0=(m:Int):=⟨z0.toNat,by omega⟩
  refine ⟨_,rfl,(by show -(2 ^ 62)≤((m:Nat):Int); omega),(by show ((m:Nat):Int)<2 ^ 62; omega),fun p4 hp4=>?_⟩
  rw [show ((m:Nat):Int).toNat=m by omega]
  have np4:p≠p4:=fun z=>by
    obtain ⟨i,_,T⟩:=T1.t
    rw [← z,T.tape] at hp4
    cases hp4
  refine comp_byC m (fun i acc H2=>∃ zs:List Nat,acc=zs.map (fun z=>V.int (z:Nat))∧zs.length=i∧(∀ z∈zs,z<8)∧H2 p4=some (.lst acc)∧Ta K a p ns H H2 (11+i)∧SameX p H1 H2) ⟨[],rfl,rfl,(fun z hz=>by cases hz),upd_same,?_,samex_upd (fun _ _ _ h=>h) hp4⟩ ?_ ?_
  · obtain ⟨i,hi,T⟩:=T1.t
    exact T1.to (samex_upd (fun _ _ _ h=>h) hp4) (by rw [upd_ne np4]; exact T.tape) T.i0 (by omega)
  · rintro i acc H2 hi ⟨zs,rfl,hl,hB,h2,T2,x2⟩
    refine ⟨hi,?_⟩
    rintro x' H3 ⟨rfl,rfl⟩
    simp only [tYes,if_true]
    refine ⟨_,rfl,_,rfl,draw_ta T2 (by omega) (by decide) fun z H4 z0 z1 x4 T4=>?_⟩
    obtain ⟨zn,rfl⟩:∃ zn:Nat,z=(zn:Int):=⟨z.toNat,by omega⟩
    have h4:=x4 _ _ (Ne.symm np4) h2
    refine ⟨h4,(by rw [List.length_map,sizeLine_eq]; omega),nx hi ⟨zs++[zn],by simp,by simp [hl],fun y hy=>?_,upd_same,?_,samex_upd (x2.trans x4) hp4⟩⟩
    · rcases List.mem_append.mp hy with hy | hy
      · exact hB y hy
      · rw [List.mem_singleton.mp hy]; omega
    · obtain ⟨j,hj,T⟩:=T4.t
      exact T1.to (samex_upd (x2.trans x4) hp4) (by rw [upd_ne np4]; exact T.tape) T.i0 (by omega)
  rintro acc H2 ⟨zs,rfl,hl,hB,h2,T2,x2⟩
  refine ⟨Nat.le_refl _,?_⟩
  have T2:Ta K a p ns H H2 50:=T2.up (by omega)
  clear T1 x1 x2 hp4
  have hgz:∀ i:Nat,i<zs.length→∃ z,zs[i]?=some z∧z<8:=fun i hi=>⟨zs[i],List.getElem?_eq_getElem hi,hB _ (List.getElem_mem hi)⟩
  have lm:(zs.map (fun z=>V.int ((z:Nat):Int))).length=zs.length:=List.length_map _
  refine ⟨_,rfl,p4,rfl,⟨_,SqL.of h2⟩,fun p5 hp5=>?_⟩
  refine comp_opt zs.length (fun i=>if (zs[i]?).getD 0<6 then some (V.int (((zs[i]?).getD 0:Nat):Int)) else none) hp5 (by rw [sizeLine_eq]; omega) (fun i H3 hi s3=>?_) fun H3 s3 h3=>⟨⟨_,SqL.of (s3 _ _ h2),Nat.le_of_eq lm⟩,?_⟩
  · obtain ⟨z,hz,hz8⟩:=hgz i hi
    have hz':(zs.map (fun z=>V.int ((z:Nat):Int)))[i]?=some (V.int (z:Nat)):=by rw [List.getElem?_map,hz]; rfl
    refine ⟨⟨_,_,SqL.of (s3 _ _ h2),hz'⟩,?_⟩
    rintro x' H4 ⟨rfl,hy⟩ R R0 hR hR0
    have hy:=hy _ (SqL.of (s3 _ _ h2))
    rw [hz'] at hy
    cases hy
    rw [hz] at hR hR0
    refine ⟨_,rfl,_,_,rfl,rfl,_,rfl,?_⟩
    by_cases c:z<6
    · refine ite2 (fun _=>⟨_,rfl,hR _ _ (by show (if z<6 then _ else _)=_; rw [if_pos c]; rfl) (Same.refl _)⟩) (fun c'=>absurd (decide_eq_true (by omega)) c')
    · refine ite2 (fun c'=>absurd (of_decide_eq_true c') (by omega)) (fun _=>hR0 _ (by show (if z<6 then _ else _)=_; rw [if_neg c]) (Same.refl _))
  have T3:=T2.mono s3
  have h23:=s3 _ _ h2
  generalize hbl:(List.range zs.length).filterMap (fun i=>if (zs[i]?).getD 0<6 then some (V.int (((zs[i]?).getD 0:Nat):Int)) else none)=bl at h3
  have lB:bl.length≤29:=by
    rw [← hbl]
    have:=List.length_filterMap_le (fun i=>if (zs[i]?).getD 0<6 then some (V.int (((zs[i]?).getD 0:Nat):Int)) else none) (List.range zs.length)
    rw [List.length_range] at this
    omega
  clear hbl s3 T2 h2
  refine ⟨p5,bl,rfl,.inl (SqL.of h3),?_⟩
  generalize bl.length=B at lB
  clear h3 hp5
  refine ⟨_,rfl,_,rfl,_,rfl,_,rfl,_,_,rfl,rfl,draw_ta T3 (by decide) (by omega) fun n1 H4 n10 n11 x4 T4=>?_⟩
  have h24:=x4 _ _ (Ne.symm np4) h23
  refine ⟨(by show 2≤sizeLine; decide),fun p6 hp6=>?_⟩
  have t6:=same_new hp6 (.lst [V.int (B:Nat),.int n1])
  have h6:(upd H4 p6 (.lst [V.int (B:Nat),.int n1])) p6=some (.lst [V.int (B:Nat),.int n1]):=upd_same
  have T5:=T4.mono t6
  have h25:=t6 _ _ h24
  generalize upd H4 p6 (.lst [V.int (B:Nat),.int n1])=H5 at T5 h25 h6 ⊢
  have np6:p6≠p:=fun z=>by
    obtain ⟨i,_,T⟩:=T4.t
    rw [z,T.tape] at hp6
    cases hp6
  refine ⟨_,rfl,_,rfl,draw_ta T5 (by decide) (by decide) fun n2 H6 n20 n21 x6 T6=>?_⟩
  have h26:=x6 _ _ (Ne.symm np4) h25
  obtain ⟨na,hna,na0⟩:∃ na:Int,atI [V.int (B:Nat),.int n1] n2=some (.int na)∧0≤na:=by
    have:n2=0∨n2=1:=by omega
    rcases this with rfl | rfl
    · exact ⟨_,atI_nat (j:=0) rfl,by omega⟩
    · exact ⟨_,atI_nat (j:=1) rfl,n10⟩
  refine ⟨p6,_,_,_,rfl,rfl,SqL.of (x6 _ _ np6 h6),hna,?_⟩
  clear T3 T4 T5 h23 h24 h25 t6 x4 h6 hp6 x6
  refine ⟨_,rfl,(by show 2≤sizeLine; decide),fun b1 hb1=>?_⟩
  have u1:=same_new hb1 (.tup [V.str "var",.int na])
  have y1:Rep (upd H6 b1 (.tup [V.str "var",.int na])) (vrD na) (.ref b1):=rep_tup upd_same (by decide +kernel) (reps1 rfl)
  have T7:=T6.mono u1
  have h27:=u1 _ _ h26
  generalize upd H6 b1 (.tup [V.str "var",.int na])=H7 at y1 T7 h27 ⊢
  refine ⟨_,rfl,_,rfl,_,rfl,_,_,rfl,rfl,draw_ta T7 (by decide) (by omega) fun nc H8 nc0 nc1 x8 T8=>?_⟩
  have y1:=T7.rep x8 y1
  have h28:=x8 _ _ (Ne.symm np4) h27
  refine ⟨(by show 2≤sizeLine; decide),fun b2 hb2=>?_⟩
  have u2:=same_new hb2 (.tup [V.str "var",.int nc])
  have y2:Rep (upd H8 b2 (.tup [V.str "var",.int nc])) (vrD nc) (.ref b2):=rep_tup upd_same (by decide +kernel) (reps1 rfl)
  have y1:=y1.mono u2
  have T9:=T8.mono u2
  have h29:=u2 _ _ h28
  generalize upd H8 b2 (.tup [V.str "var",.int nc])=H9 at y1 y2 T9 h29 ⊢
  refine ⟨(by show 3≤sizeLine; decide),fun b3 hb3=>?_⟩
  have u3:=same_new hb3 (.tup [V.str "app",.ref b1,.ref b2])
  have y3:Rep (upd H9 b3 (.tup [V.str "app",.ref b1,.ref b2])) (apD (vrD na) (vrD nc)) (.ref b3):=rep_tup upd_same (by decide +kernel) (reps2 (y1.mono u3) (y2.mono u3))
  have T10:=T9.mono u3
  have h210:=u3 _ _ h29
  generalize upd H9 b3 (.tup [V.str "app",.ref b1,.ref b2])=H10 at y3 T10 h210 ⊢
  clear T6 T7 T8 T9 h26 h27 h28 h29 u1 u2 u3 x8 y1 y2 hb1 hb2 hb3
  refine ⟨_,rfl,p4,rfl,⟨_,SqL.of h210⟩,?_⟩
  let Ifr:Nat→L2.St→Hp→Prop:=(fun j σ' H'=>∃ (u:V) (kv:Option V),σ'=[some (.ref a),some (.ref p),some (.ref p4),some (.int (B:Nat)),some (.int na),some u,kv,none,none,none]∧Same H10 H'∧Rep H' (rndL ((zs.take j).reverse) (apD (vrD na) (vrD nc))) u)
  refine for_by zs.length Ifr ?_ ?_ ?_
  · exact ⟨_,_,rfl,Same.refl _,y3⟩
  · rintro j σ' H11 hj ⟨u,kv,rfl,s11,r11⟩
    obtain ⟨z,hz,hz8⟩:=hgz j hj
    have hz':(zs.map (fun z=>V.int ((z:Nat):Int)))[j]?=some (V.int (z:Nat)):=by rw [List.getElem?_map,hz]; rfl
    refine ⟨⟨_,_,SqL.of (s11 _ _ h210),hz'⟩,?_⟩
    rintro x' H12 ⟨rfl,hy⟩
    have hy:=hy _ (SqL.of (s11 _ _ h210))
    rw [hz'] at hy
    cases hy
    refine ⟨_,rfl,_,rfl,z,_,u,rfl,hz8,r11,fun u' H13 s13 r13=>?_⟩
    refine ⟨_,_,rfl,s11.trans s13,?_⟩
    have et:zs.take (j+1)=zs.take j++[z]:=by rw [List.take_add_one,hz]; rfl
    rw [et,List.reverse_append]
    exact r13
  rintro σ' H11 ⟨u,kv,rfl,s11,r11⟩
  refine ⟨⟨_,SqL.of (s11 _ _ h210),Nat.le_of_eq lm⟩,?_⟩
  rw [List.take_length] at r11
  have T11:=T10.mono s11
  generalize hws:zs.reverse=ws at r11
  have lws:ws.length≤29:=by rw [← hws,List.length_reverse]; omega
  clear y3 T10 h210 s11
  refine ⟨(by show 2≤sizeLine; decide),fun p6 hp6=>?_⟩
  have t6:=same_new hp6 (.lst [V.int 3,.int 60])
  have h6:(upd H11 p6 (.lst [V.int 3,.int 60])) p6=some (.lst [V.int 3,.int 60]):=upd_same
  have np6:p6≠p:=fun z=>by
    obtain ⟨i,_,T⟩:=T11.t
    rw [z,T.tape] at hp6
    cases hp6
  have T12:=T11.mono t6
  have r12:=r11.mono t6
  generalize upd H11 p6 (.lst [V.int 3,.int 60])=H12 at T12 r12 h6 ⊢
  refine ⟨_,rfl,_,rfl,draw_ta T12 (by decide) (by decide) fun n3 H13 n30 n31 x13 T13=>?_⟩
  have r13:=T12.rep x13 r12
  obtain ⟨fr,hfr,fr0⟩:∃ fr:Int,atI [V.int 3,.int 60] n3=some (.int fr)∧0<fr:=by
    have:n3=0∨n3=1:=by omega
    rcases this with rfl | rfl
    · exact ⟨_,atI_nat (j:=0) rfl,by decide⟩
    · exact ⟨_,atI_nat (j:=1) rfl,by decide⟩
  refine ⟨p6,_,_,_,rfl,rfl,SqL.of (x13 _ _ np6 h6),hfr,?_⟩
  clear T11 T12 r11 r12 h6 t6 hp6 x13
  refine ⟨_,rfl,_,rfl,_,rfl,draw_ta T13 (by decide) fr0 fun q1 H14 q10 _ x14 T14=>?_⟩
  have r14:=T13.rep x14 r13
  refine ⟨(by show 2≤sizeLine; decide),fun b1 hb1=>?_⟩
  have u1:=same_new hb1 (.tup [V.str "var",.int q1])
  have y1:Rep (upd H14 b1 (.tup [V.str "var",.int q1])) (vrD q1) (.ref b1):=rep_tup upd_same (by decide +kernel) (reps1 rfl)
  have T15:=T14.mono u1
  have r15:=r14.mono u1
  generalize upd H14 b1 (.tup [V.str "var",.int q1])=H15 at y1 T15 r15 ⊢
  refine ⟨_,rfl,_,rfl,_,rfl,draw_ta T15 (by decide) fr0 fun q2 H16 q20 _ x16 T16=>?_⟩
  have r16:=T15.rep x16 r15
  have y1:=T15.rep x16 y1
  refine ⟨(by show 2≤sizeLine; decide),fun b2 hb2=>?_⟩
  have u2:=same_new hb2 (.tup [V.str "var",.int q2])
  have y2:Rep (upd H16 b2 (.tup [V.str "var",.int q2])) (vrD q2) (.ref b2):=rep_tup upd_same (by decide +kernel) (reps1 rfl)
  have T17:=T16.mono u2
  have r17:=r16.mono u2
  have y1:=y1.mono u2
  generalize upd H16 b2 (.tup [V.str "var",.int q2])=H17 at y1 y2 T17 r17 ⊢
  refine ⟨(by show 2≤sizeLine; decide),fun b3 hb3=>?_⟩
  have u3:=same_new hb3 (.tup [V.str "next",.ref b2])
  have y3:Rep (upd H17 b3 (.tup [V.str "next",.ref b2])) (nxD (vrD q2)) (.ref b3):=rep_tup upd_same (by decide +kernel) (reps1 (y2.mono u3))
  have T18:=T17.mono u3
  have r18:=r17.mono u3
  have y1:=y1.mono u3
  generalize upd H17 b3 (.tup [V.str "next",.ref b2])=H18 at y1 y3 T18 r18 ⊢
  refine ⟨(by show 3≤sizeLine; decide),fun b4 hb4=>?_⟩
  have u4:=same_new hb4 (.tup [V.str "app",.ref b1,.ref b3])
  have y4:Rep (upd H18 b4 (.tup [V.str "app",.ref b1,.ref b3])) (oD q1 q2) (.ref b4):=rep_tup upd_same (by decide +kernel) (reps2 (y1.mono u4) (y3.mono u4))
  have T19:=T18.mono u4
  have r19:=r18.mono u4
  generalize upd H18 b4 (.tup [V.str "app",.ref b1,.ref b3])=H19 at y4 T19 r19 ⊢
  clear T13 T14 T15 T16 T17 T18 r13 r14 r15 r16 r17 r18 u1 u2 u3 u4 y1 y2 y3 x14 x16 hb1 hb2 hb3 hb4
  refine ⟨(by show 1≤sizeLine; decide),fun c1 hc1=>?_⟩
  obtain ⟨u1,y1⟩:=leaf_new "nat" hc1 (by decide +kernel)
  have T20:=T19.mono u1
  have r20:=r19.mono u1
  have y4:=y4.mono u1
  generalize upd H19 c1 (.tup [V.str "nat"])=H20 at y1 y4 T20 r20 ⊢
  refine ⟨_,rfl,(by show 3≤sizeLine; decide),fun c2 hc2=>?_⟩
  have u2:=same_new hc2 (.tup [V.str "fun",.ref c1,u])
  have y2:Rep (upd H20 c2 (.tup [V.str "fun",.ref c1,u])) (.tup [.str "fun",natD,bdD ws na nc]) (.ref c2):=rep_tup upd_same (by decide +kernel) (reps2 (y1.mono u2) (r20.mono u2))
  have T21:=T20.mono u2
  have y4:=y4.mono u2
  generalize upd H20 c2 (.tup [V.str "fun",.ref c1,u])=H21 at y2 y4 T21 ⊢
  refine ⟨_,rfl,(by show 3≤sizeLine; decide),fun c3 hc3=>?_⟩
  have u3:=same_new hc3 (.tup [V.str "app",.ref c2,.ref b4])
  have y5:Rep (upd H21 c3 (.tup [V.str "app",.ref c2,.ref b4])) (oneD ws na nc q1 q2) (.ref c3):=rep_tup upd_same (by decide +kernel) (reps2 (y2.mono u3) (y4.mono u3))
  have T22:=T21.mono u3
  generalize upd H21 c3 (.tup [V.str "app",.ref c2,.ref b4])=H22 at y5 T22 ⊢
  have O:One ws na nc q1 q2:=⟨na0,nc0,q10,q20⟩
  have d2:depth (apD (vrD na) (vrD nc))=2:=by simp [apD,vrD,depth,depthL]
  have hdb:depth (bdD ws na nc)≤89:=by
    have:=dp_rnd3L (apD (vrD na) (vrD nc)) (by omega) ws
    show depth (rndL ws _)≤89
    omega
  refine ⟨_,rfl,oneD ws na nc q1 q2,_,rfl,y5,⟨⟨_,O.w1⟩,by rw [one_dp]; omega,Nat.zero_le _⟩,fun H23 s23=>⟨_,rfl,?_⟩⟩
  refine ite2 (fun c=>?_) (fun c=>?_)
  · refine ⟨(by show 1≤sizeLine; decide),fun c4 hc4=>?_⟩
    obtain ⟨u4,y6⟩:=leaf_new "zero" hc4 (by decide +kernel)
    exact q _ _ ((T22.mono (s23.trans u4)).up (by decide)) (.inl y6)
  · exact ⟨_,rfl,q _ _ ((T22.mono s23).up (by decide)) (.inr ⟨ws,na,nc,q1,q2,O,Bool.eq_false_iff.mpr c,y5.mono s23⟩)⟩
end K27
end
section
namespace L3
open PySem PySem.Spec PyProof.Rows L2 KM
end L3
end
section
namespace L3
open PySem PySem.Spec PyProof.Rows L2 KM
def bIfR (c:TT) (t u:TB):TB:=fun D G σ H=>c σ H fun b H1=>if b=true then t { D with nx:=fun σ' H'=>u D G σ' H' } G σ H1 else u D G σ H1
theorem pb_ifR {X:Cx} {c:Expr} {a rest:List Stmt} {tc:TT} {t u:TB} {pos:Pos} (hc:PT X.nox c tc) (ha:PB X a t) (hb:PB X rest u):PB X (.If c a [] pos::rest) (bIfR tc t u):=by
  intro pins s σ H D G I h
  refine wpAny_execs_cons (wpAny_mono (wpAny_If (E:=BX X pins G) (Q:=SP X pins { D with nx:=fun σ' H'=>u D G σ' H' }) (wpAny_mono (hc pins s σ H _ (I.wish _) h) (fun d s1 ⟨H1,I1,q1⟩=>?_) fun _ _ z=>z.elim)) (fun f s1 q=>?_) fun _ _ z=>z)
  · cases d with
    | true=>exact ha pins s1 σ H1 _ G I1.unwish q1
    | false=>exact wpAny_execs_nil ⟨σ,H1,I1.unwish,q1⟩
  · cases f with
    | next=>obtain ⟨σ',H',I',q⟩:=q; exact hb pins s1 σ' H' D G I' q
    | brk=>exact q
    | cont=>exact q
    | ret u=>exact q
def bRetIx (sp:Sp) (t:TA) (r1 r2 r3:R2) (i1 i2 tb:TE):TB:=fun D G σ H=>t σ H fun vs H1=>sp vs H1 (fun x H2=>i1 σ H2 fun y H3=>r1 x y H3 fun x2 H4=>i2 σ H4 fun y2 H5=>r2 x2 y2 H5 fun x3 H6=>tb σ H6 fun y3 H7=>r3 x3 y3 H7 D.rt) fun Cv _ H2=>∃ C,Cv=.ref C∧G C σ H2
theorem noxE {X:Cx} {pins:List (Addr×Obj)} {s:Shared} {σ:L2.St} {Q:VK} {G:Addr→L2.St→Hp→Prop} {m:Sem Value} (h:wpAny (model X.prog X.w) X.A m (EP X.nox pins σ Q) X.nox.xe s):wpAny (model X.prog X.w) X.A m (EP X pins σ Q) (BX X pins G) s :=
  wpAny_mono h (fun v s1 ⟨y,H1,I1,r1,q1⟩=>⟨y,H1,I1.unwish,r1,q1⟩) fun _ _ z=>z.elim
theorem pb_retIx {X:Cx} {x:Str} {k:Nat} {ps:List Str} {sp:Sp} {e b ie1 ie2:Expr} {es:List Expr} {t:TA} {r1 r2 r3:R2} {i1 i2 tb:TE} {op:CmpOp} {p pos pos' p1 p2 p3:Pos} (F:Cal X.prog X.w X.K X.mg (CXo X.prog X.w) x k ps sp) (hr:Room k X.A) (hg:Gl X x) (hx:X.ex=[]) (ha:PA X.nox (e::es) t)
    (h1:IxR X.nox r1) (hi1:PE X.nox ie1 i1) (hs1:PlainIx ie1) (h2:IxR X.nox r2) (hi2:PE X.nox ie2 i2) (hs2:PlainIx ie2) (ho:OpR X.nox (compareOp op) r3) (hb:PE X.nox b tb) (hm:behindInMarks op b=false)
    (hdb:(x==("__debug__" : Str))=false:=by decide) (he:starEach (e::es) X.env=(false,eval e X.env)::starEach es X.env:=by rfl) (hpl:(backTo pos (starEach es X.env)).any (·.1)=false:=by rfl) (hc:X.calm=true:=by rfl) :
    PB X [.Return (some (.Compare (.Subscript (.Subscript (.Call (.Name x p) (e::es) [] pos) ie1 p1) ie2 p2) [op] [b] p3)) pos'] (bRetIx sp t r1 r2 r3 i1 i2 tb):=by
  intro pins s σ H D G I h
  refine wpAny_execs_cons (wpAny_Return_some ?_)
  refine wpAny_Compare1 ?_ hm
  refine Subscript_ ?_
  refine thn (Subscript_ (thn (call_b F hr hg hx ha hdb he hpl hc I h) fun v s1 ⟨y,H1,I1,r1',q1⟩=>thn (noxE (hi1 pins s1 σ H1 _ (I1.wish _) q1)) fun u s2 ⟨y2,H2,I2,r2',q2⟩=>noxE (h1 _ ie1 pins s2 σ H2 y y2 v u _ (I2.wish _) r1' r2' q2 (hs1 _ _)))) fun v s1 ⟨y,H1,I1,r1',q1⟩=>?_
  refine thn (noxE (hi2 pins s1 σ H1 _ (I1.wish _) q1)) fun u s2 ⟨y2,H2,I2,r2',q2⟩=>?_
  refine thn (noxE (h2 _ ie2 pins s2 σ H2 y y2 v u _ (I2.wish _) r1' r2' q2 (hs2 _ _))) fun v3 s3 ⟨y3,H3,I3,r3',q3⟩=>?_
  refine thn (noxE (hb pins s3 σ H3 _ (I3.wish _) q3)) fun u4 s4 ⟨y4,H4,I4,r4',q4⟩=>?_
  exact thn (noxE (ho pins s4 σ H4 y3 y4 v3 u4 _ (I4.wish _) r3' r4' q4)) fun v5 s5 ⟨y5,H5,I5,r5',q5⟩=>⟨y5,σ,H5,I5,r5',q5⟩
end L3
end
section
set_option maxHeartbeats 4000000
namespace K27
open PySem L2 L3 KM PyProof.Rows
seal L2.PE L2.PS L2.PSs L2.PT L2.PW L2.PA L2.PG L2.PGs L2.PI L2.PC L2.PO L2.PPs L2.PK L3.PIf L3.PH L3.PB
variable {P:Program} {w:World} {K:PySem.W.Frag} {mg:Str→Option Value} {base:Heap} {t:Adr}
structure Ek (K:PySem.W.Frag) (t:Adr):Prop where
  gr:ExcK K t.Great
  dr:ExcK K t.Dry
  ns:ExcK K t.NoStep
  np:ExcK K t.NoPlace
  s1:PySem.W.subIn K (.ref t.Great) (.ref t.Great)=some true
  s2:PySem.W.subIn K (.ref t.Great) (.ref t.Dry)=some false
def dueV (d:D):D:=if greatD d=true then .str "great" else d
theorem rep_due {H:Hp} {d:D} {v:V} (h:greatD d=false) (r:Rep H d v):Rep H (dueV d) v:=by
  unfold dueV
  rw [h]
  exact r
theorem rep_gr {H:Hp} {d:D} (h:greatD d=true):Rep H (dueV d) (.str "great"):=by
  unfold dueV
  rw [if_pos h]
  exact ⟨rfl,by decide +kernel⟩
structure Thg (H:Hp) (T1 T2:Addr) (ws:List Nat) (a c p q:Int) (k:Nat) (v pw:V):Prop where
  o:One ws a c p q
  r:Rep H (rndL (nx6 k) (oneD ws a c p q)) v
  d:depth (rndL (nx6 k) (oneD ws a c p q))≤40
  p:Rep H (plI (toI (List.replicate k 0))) pw
  t:Tbs H T1 T2
theorem Thg.mono {H H':Hp} {T1 T2:Addr} {ws:List Nat} {a c p q:Int} {k:Nat} {v pw:V} (h:Thg H T1 T2 ws a c p q k v pw) (s:Same H H'):Thg H' T1 T2 ws a c p q k v pw:=⟨h.o,h.r.mono s,h.d,h.p.mono s,h.t.mono s⟩
abbrev dueT (ws:List Nat) (a c p q:Int) (k:Nat):D:=rndL (nx6 k) (pinD (oD p q) 0 (bdD ws a c))
theorem gr_or {ws:List Nat} {a c p q:Int} {k:Nat}:(greatD (pinD (oD p q) 0 (bdD ws a c)) || greatD (dueT ws a c p q k))=greatD (dueT ws a c p q k):=by
  cases h:greatD (pinD (oD p q) 0 (bdD ws a c)) with
  | false=>rfl
  | true=>rw [show greatD (dueT ws a c p q k)=true from nx6_gr k h]; rfl
def spTold (T1 T2:Addr):Sp:=fun vs H Q _=>∃ (y:Int) (v pw:V) (ws:List Nat) (a c p q:Int) (k:Nat),vs=[.int y,v,pw]∧Thg H T1 T2 ws a c p q k v pw∧∀ (u:V) (H':Hp),Same H H'→Rep H' (dueV (dueT ws a c p q k)) u→Q u H'
theorem sc_law_told:FnScope ["_law_way", "_law_thing", "_law_place"] ["_law_way", "_law_thing", "_law_place"] (defScope s_law_told):=⟨rfl,rfl,rfl,by decide +kernel,rfl,by decide +kernel,by decide +kernel⟩
theorem c_law_told {T1 T2:Addr} (D:Df K mg "_law_told" s_law_told ["_law_way", "_law_thing", "_law_place"]) (M:Mg mg t) (X:Ek K t) (F_stepped:Cal P w K mg (CXo P w) "stepped" (128) ["thing", "place", "book"] (spStep t.Great T1 T2)) (F_walked:Cal P w K mg (CXo P w) "walked" (129) ["thing", "log", "book"] (spWalk t.Great T1 T2)):Cal P w K mg CX0 "_law_told" (130) ["_law_way", "_law_thing", "_law_place"] (spTold T1 T2):=by
  refine D.ok sc_law_told (fun vs H Q E h=>?_) (fun base f cdv A outer s H vs Q E hr h=>?_)
  · obtain ⟨y,v,pw,ws,a,c,p,q,k,rfl,_⟩:=h
    rfl
  obtain ⟨y,v,pw,ws,a,c,p,q,k,rfl,T,qq⟩:=h
  have E_Great:=X.gr
  refine ⟨_,(pss_one (ps_try rfl rfl rfl (pb_ifR (pt_cmpR op_eq (pv 0) pe_int (nomark _)) (pb_ret F_stepped (hr.mono (by omega)) rfl rfl (pa_cons (pv 1) (pa_cons (pv 2) (pa_cons pe_dnewK pa_nil)))) (pb_ret F_walked (hr.mono (by omega)) rfl rfl (pa_cons (pv 1) (pa_cons (pe_lst (pa_cons (pe_tup (pa_cons (pv 2) (pa_cons pe_str pa_nil))) pa_nil)) (pa_cons pe_dnewK pa_nil))))) (ph_cons false E_Great M.g_Great rfl (fun z=>nomatch z) (fun a C oe hoe=>(pss_one (ps_ret pe_str))) ph_nil))),?_⟩
  try dsimp only [cxK,cxK2]
  obtain ⟨e1,ok,ep,dp,wp⟩:=step_one (inb:=inB []) T.o T.d
  have fin:∀ (z:V) (H':Hp),Same H H'→(greatD (pinD (oD p q) 0 (bdD ws a c)) || greatD (putD (rndL (nx6 k) (oneD ws a c p q)) (toI (List.replicate k 0)) (pinD (oD p q) 0 (bdD ws a c))))=false→Rep H' (putD (rndL (nx6 k) (oneD ws a c p q)) (toI (List.replicate k 0)) (pinD (oD p q) 0 (bdD ws a c))) z→Q z H':=fun z H' s1 hg r=>by
    rw [ep] at hg r
    rw [gr_or] at hg
    exact qq z H' s1 (rep_due hg r)
  have fil:∀ (H':Hp),Same H H'→(greatD (pinD (oD p q) 0 (bdD ws a c)) || greatD (putD (rndL (nx6 k) (oneD ws a c p q)) (toI (List.replicate k 0)) (pinD (oD p q) 0 (bdD ws a c))))=true→Q (.str "great") H':=fun H' s1 hg=>by
    rw [ep,gr_or] at hg
    exact qq _ H' s1 (rep_gr hg)
  refine ⟨_,rfl,rfl,_,rfl,ite2 (fun _=>?_) (fun _=>?_)⟩
  · refine ⟨_,rfl,_,rfl,fun b hb=>?_⟩
    have t1:=same_new hb (.dK [])
    have hT:=T.mono t1
    refine ⟨_,_,v,pw,_,b,[],_,_,rfl,hT.r,hT.p,upd_same,ok,hT.t,fun z H' s1 hg r=>fin z H' (t1.trans s1) hg r,fun H' s1 hg=>⟨_,rfl,fun a1 ha1=>⟨true,X.s1,iteT (fil H' (t1.trans s1) hg)⟩⟩⟩
  · refine ⟨_,rfl,_,rfl,(by show 2≤sizeLine; decide),fun p1 hp1=>?_⟩
    have t1:=same_new hp1 (.tup [pw,.str "fun"])
    have h1:(upd H p1 (.tup [pw,.str "fun"])) p1=some (.tup [pw,.str "fun"]):=upd_same
    generalize upd H p1 (.tup [pw,.str "fun"])=H1 at t1 h1 ⊢
    refine ⟨(by show 1≤sizeLine; decide),fun p2 hp2=>?_⟩
    have t2:=same_new hp2 (.lst [V.ref p1])
    have h2:(upd H1 p2 (.lst [V.ref p1])) p2=some (.lst [V.ref p1]):=upd_same
    generalize upd H1 p2 (.lst [V.ref p1])=H2 at t2 h2 ⊢
    intro b hb
    have t3:=same_new hb (.dK [])
    have s13:=t1.trans (t2.trans t3)
    have hT:=T.mono s13
    exact ⟨_,_,v,pw,_,b,p2,p1,[],_,_,rfl,hT.r,t3 _ _ h2,t3 _ _ (t2 _ _ h1),hT.p,upd_same,ok,hT.t,fun z H' s1 hg r=>fin z H' (s13.trans s1) hg r,fun H' s1 hg=>⟨_,rfl,fun a1 ha1=>⟨true,X.s1,iteT (fil H' (s13.trans s1) hg)⟩⟩⟩
def spFst (T1 T2:Addr):Sp:=fun vs H Q _=>∃ (v pw:V) (ws:List Nat) (a c p q:Int) (k:Nat),vs=[v,pw]∧Thg H T1 T2 ws a c p q k v pw∧∀ (H':Hp),Same H H'→Q (.bl true) H'
theorem sc_law_first:FnScope ["_law_thing", "_law_place"] ["_law_thing", "_law_place"] (defScope s_law_first):=⟨rfl,rfl,rfl,by decide +kernel,rfl,by decide +kernel,by decide +kernel⟩
theorem c_law_first {T1 T2:Addr} (D:Df K mg "_law_first" s_law_first ["_law_thing", "_law_place"]) (M:Mg mg t) (X:Ek K t) (F_normal:Cal P w K mg (CXo P w) "normal" (129) ["thing", "fuel", "book"] (spNormal t.Great T1 T2)):Cal P w K mg CX0 "_law_first" (131) ["_law_thing", "_law_place"] (spFst T1 T2):=by
  refine D.ok sc_law_first (fun vs H Q E h=>?_) (fun base f cdv A outer s H vs Q E hr h=>?_)
  · obtain ⟨v,pw,ws,a,c,p,q,k,rfl,_⟩:=h
    rfl
  obtain ⟨v,pw,ws,a,c,p,q,k,rfl,T,qq⟩:=h
  have E_Great:=X.gr
  have E_Dry:=X.dr
  have h64:=hr.units
  refine ⟨_,(pss_one (ps_try rfl rfl rfl (pb_retIx F_normal (hr.mono (by omega)) rfl rfl (pa_cons (pv 0) (pa_cons pe_int (pa_cons pe_dnewK pa_nil))) (ix_tupK (K:=K)) pe_int (fun _ _=>rfl) (ix_listK (K:=K)) pe_int (fun _ _=>rfl) (op_eqD h64) (pe_tup (pa_cons (pv 1) (pa_cons pe_str pa_nil))) (nomark _)) (ph_cons false E_Dry M.g_Dry rfl (fun z=>nomatch z) (fun a C oe hoe=>(pss_one (ps_ret pe_bl))) (ph_cons false E_Great M.g_Great rfl (fun z=>nomatch z) (fun a C oe hoe=>(pss_one (ps_ret pe_bl))) ph_nil)))),?_⟩
  try dsimp only [cxK,cxK2]
  obtain ⟨rs,res,run,lrs,hres⟩:=run_on (inb:=inB []) T.o T.d
  refine ⟨_,rfl,fun b hb=>?_⟩
  have t1:=same_new hb (.dK [])
  have hT:=T.mono t1
  have hd:=T.d
  refine ⟨_,v,600,b,[],rs,res,rfl,hT.r,⟨⟨_,wf_rndL T.o.w1 _⟩,by omega,Nat.zero_le _⟩,upd_same,run,by omega,by omega,hT.t,fun d' p1 lg us u H1 er s1 h1 hl rl ru=>?_,fun er H1 s1=>?_⟩
  · rcases hres with e | ⟨r,rfl⟩
    · rw [e] at er; cases er
    obtain ⟨v0,vs,rfl,rv0,_⟩:=rl
    refine ⟨p1,_,_,_,rfl,rfl,SqT.of h1,atI_nat (j:=1) rfl,lg,_,_,_,rfl,rfl,SqL.of hl,atI_nat (j:=0) rfl,_,rfl,(by show 2≤sizeLine; decide),fun p3 hp3=>?_⟩
    have t3:=same_new hp3 (.tup [pw,.str "fun"])
    have rp:Rep (upd H1 p3 (.tup [pw,.str "fun"])) (prD (List.replicate k 0,Str.ofString "fun")) (.ref p3):=by
      refine ⟨p3,_,rfl,upd_same,_,_,rfl,?_,_,_,rfl,⟨rfl,(by show (Str.ofString "fun").length≤1000; decide +kernel)⟩,rfl⟩
      have:=(hT.p.mono s1).mono t3
      rw [plI_toI] at this
      exact this
    have hk:k≤40:=by rw [nx6_dp] at hd; omega
    have cm:cmpD (prD (List.replicate k 0,Str.ofString "fun"))=true:=by
      show (cmpL ((List.replicate k 0).map fun i:Nat=>KM.D.int (i:Nat)) && (cmpD (.str (Str.ofString "fun")) && true))=true
      have:∀ l:List Nat,cmpL (l.map fun i:Nat=>KM.D.int (i:Nat))=true:=fun l=>by
        induction l with
        | nil=>rfl
        | cons a l ih=>show (cmpD (.int (a:Nat)) && cmpL (l.map fun i:Nat=>KM.D.int (i:Nat)))=true; rw [ih]; rfl
      rw [this]
      decide +kernel
    have dp:depth (prD (List.replicate k 0,Str.ofString "fun"))≤60:=by
      have:∀ l:List Nat,depthL (l.map fun i:Nat=>KM.D.int (i:Nat))=0:=fun l=>by
        induction l with
        | nil=>rfl
        | cons a l ih=>simp [depthL,depth,ih]
      show depth (.tup [.tup ((List.replicate k 0).map fun i:Nat=>KM.D.int (i:Nat)),.str (Str.ofString "fun")])≤60
      simp only [depth,depthL,this]
      omega
    exact ⟨_,_,true,rv0.mono t3,rp,dp,dp,cm,cm,⟨fun _=>rfl,fun _=>rfl⟩,qq _ (t1.trans (s1.trans t3))⟩
  · exact ⟨_,rfl,fun a1 ha1=>⟨false,X.s2,iteF ⟨true,X.s1,iteT (qq H1 (t1.trans s1))⟩⟩⟩
end K27
end
section
set_option maxHeartbeats 4000000
namespace K27
open PySem L2 L3 KM PyProof.Rows
seal L2.PE L2.PS L2.PSs L2.PT L2.PW L2.PA L2.PG L2.PGs L2.PI L2.PC L2.PO L2.PPs L2.PK L3.PIf L3.PH L3.PB
seal spDraw
variable {P:Program} {w:World} {K:PySem.W.Frag} {mg:Str→Option Value} {base:Heap} {t:Adr}
theorem tape_new {H:Hp} {a p:Addr} {ns:List Int} (hS:SqL K H a (ns.map V.int)) (hl:ns.length≤63) (hp:H p=none):Tp K a p ns (upd H p (.lst [V.int 0])) 0:=by
  refine ⟨?_,hl,upd_same,Int.le_refl _⟩
  rcases hS with (h | ⟨o,h⟩) | h
  · have n:a≠p:=ne_of_none h hp
    exact .inl ⟨n,.inl (by rw [upd_ne n]; exact h)⟩
  · have n:a≠p:=ne_of_none h hp
    exact .inl ⟨n,.inr ⟨o,by rw [upd_ne n]; exact h⟩⟩
  · exact .inr fun H'=>.inr h
theorem Tbs.x {H H':Hp} {p T1 T2:Addr} {xs:List V} (h:Tbs H T1 T2) (x:SameX p H H') (hp:H p=some (.lst xs)):Tbs H' T1 T2:=by
  have k:∀ {T:Addr} {q:Str} {ps:Pos},TabOk H T q ps→TabOk H' T q ps:=fun {T q ps} h=>x _ _ (fun z=>by rw [z] at h; unfold TabOk at h; rw [hp] at h; cases h) h
  exact ⟨k h.t1,k h.t2⟩
theorem Ta.tb {a p:Addr} {ns:List Int} {H0 H H':Hp} {n:Int} {T1 T2:Addr} (h:Ta K a p ns H0 H n) (x:SameX p H H') (b:Tbs H T1 T2):Tbs H' T1 T2:=by
  obtain ⟨i,_,T⟩:=h.t
  exact b.x x T.tape
theorem rep_pl {H:Hp} {pp:Addr} {k:Nat} (h:H pp=some (.tup (List.replicate k [V.int 0]).flatten)):Rep H (plI (toI (List.replicate k 0))) (.ref pp):=by
  refine ⟨pp,_,rfl,h,?_⟩
  have:∀ k:Nat,Reps H ((toI (List.replicate k 0)).map KM.D.int) (List.replicate k [V.int 0]).flatten:=fun k=>by
    induction k with
    | zero=>exact rfl
    | succ k ih=>exact ⟨V.int 0,_,rfl,rfl,ih⟩
  exact this k
theorem cmp_due {ws:List Nat} {a c p q:Int} {k:Nat} (h:depth (bdD ws a c)<58):cmpD (dueT ws a c p q k)=true:=by
  obtain ⟨A,C,e,vA,vC⟩:=pin_form (p:=p) (q:=q) h
  have e:pinD (oD p q) 0 (bdD ws a c)=rndL ws (apD A C):=e
  unfold dueT
  rw [e]
  exact cmp_rndL (cmp_rndL (cmp_ap vA.c vC.c) ws) _
theorem cmp_one (ws:List Nat) (a c p q:Int):cmpD (oneD ws a c p q)=true:=cmp_ap (cmp_rnd (cmp_rndL (cmp_ap (cmp_vr a) (cmp_vr c)) ws) 3) (vl_o p q).c
theorem due_cm {d:D} (h:cmpD d=true):cmpD (dueV d)=true:=by
  unfold dueV
  split
  · decide +kernel
  · exact h
theorem due_dp {d:D} (h:depth d≤60):depth (dueV d)≤60:=by
  unfold dueV
  split
  · decide +kernel
  · exact h
def spLaw (K:PySem.W.Frag) (T1 T2:Addr):Sp:=fun vs H Q _=>∃ (a:Addr) (ns:List Int),vs=[.ref a]∧SqL K H a (ns.map V.int)∧ns.length≤63∧Tbs H T1 T2∧∀ H',Q (.bl true) H'
theorem sc_law:FnScope ["_law_script", "_law_tape", "_law_one", "_law_due", "_law_place", "_law_thing", "_law_k", "_law_way"] ["_law_script"] (defScope s_law):=⟨rfl,rfl,rfl,by decide +kernel,rfl,by decide +kernel,by decide +kernel⟩
theorem c_law {f:Addr} {fd:FuncData} {T1 T2:Addr} (F:Fun K "law" "law" s_law f fd) (M:Mg mg t) (F_law_draw:Cal P w K mg CX0 "_law_draw" (1) ["_law_script", "_law_tape", "_law_many"] (spDraw K)) (F_law_deep:Cal P w K mg CX0 "_law_deep" (226) ["_law_script", "_law_tape"] (spDeep K)) (F_law_put:Cal P w K mg CX0 "_law_put" (121) ["_law_thing", "_law_other", "_law_over_here"] (spPlaced 58)) (F_law_great:Cal P w K mg CX0 "_law_great" (225) ["_law_thing"] (spGreat 93)) (F_law_told:Cal P w K mg CX0 "_law_told" (130) ["_law_way", "_law_thing", "_law_place"] (spTold T1 T2)) (F_law_first:Cal P w K mg CX0 "_law_first" (131) ["_law_thing", "_law_place"] (spFst T1 T2)) (F_stepped:Cal P w K mg (CXo P w) "stepped" (128) ["thing", "place", "book"] (spStep t.Great T1 T2)):FnOk P w K mg base CX0 228 f fd ["_law_script"] (spLaw K T1 T2):=by
  refine F.ok sc_law (fun vs H Q E h=>?_) (fun cdv A outer s H vs Q E hr h=>?_)
  · obtain ⟨a,ns,rfl,_⟩:=h
    rfl
  obtain ⟨a,ns,rfl,hS,hlen,hT,q⟩:=h
  have h64:=hr.units
  refine ⟨_,(pss_cons (ps_set (i:=1) sc_law.nd rfl (by first | exact Or.inl rfl | exact Or.inr rfl) (pe_lst (pa_cons pe_int pa_nil)))
      (pss_cons (ps_set (i:=2) sc_law.nd rfl (by first | exact Or.inl rfl | exact Or.inr rfl) (pe_fn F_law_deep (hr.mono (by omega)) rfl pass0 (pa_cons (pv 0) (pa_cons (pv 1) pa_nil))))
      (pss_cons (ps_if (pt_cmpR (op_eqD h64) (pv 2) (pe_tup (pa_cons pe_str pa_nil)) (nomark _)) (pss_one (ps_ret pe_bl)) pss_nil)
      (pss_cons (ps_set (i:=3) sc_law.nd rfl (by first | exact Or.inl rfl | exact Or.inr rfl) (pe_fn F_law_put (hr.mono (by omega)) rfl pass0 (pa_cons (pe_ix ix_tup (pe_ix ix_tup (pv 2) pe_int (fun _ _=>rfl)) pe_int (fun _ _=>rfl)) (pa_cons (pe_ix ix_tup (pv 2) pe_int (fun _ _=>rfl)) (pa_cons pe_int pa_nil)))))
      (pss_cons (ps_set (i:=4) sc_law.nd rfl (by first | exact Or.inl rfl | exact Or.inr rfl) (pe_op op_repT0 (pe_tup (pa_cons pe_int pa_nil)) (pe_fn F_law_draw (hr.mono (by omega)) rfl pass0 (pa_cons (pv 0) (pa_cons (pv 1) (pa_cons pe_int pa_nil))))))
      (pss_cons (ps_set (i:=5) sc_law.nd rfl (by first | exact Or.inl rfl | exact Or.inr rfl) (pv 2))
      (pss_cons (ps_for PassesOwn.never rfl (pi_range1 rfl M.n_range (pa_cons (pe_callB call_len_seq rfl M.n_len bt_len (pa_cons (pv 4) pa_nil)) pa_nil)) (pg_name (i:=6) sc_law.nd rfl (by first | exact Or.inl rfl | exact Or.inr rfl)) (pss_cons (ps_set (i:=5) sc_law.nd rfl (by first | exact Or.inl rfl | exact Or.inr rfl) (pe_tup (pa_cons pe_str (pa_cons (pv 5) pa_nil))))
      (pss_one (ps_set (i:=3) sc_law.nd rfl (by first | exact Or.inl rfl | exact Or.inr rfl) (pe_tup (pa_cons pe_str (pa_cons (pv 3) pa_nil)))))))
      (pss_cons (ps_if (pt_val (pe_fn F_law_great (hr.mono (by omega)) rfl pass0 (pa_cons (pv 5) pa_nil))) (pss_one (ps_ret pe_bl)) pss_nil)
      (pss_cut (ps_if (pt_val (pe_fn F_law_great (hr.mono (by omega)) rfl pass0 (pa_cons (pv 3) pa_nil))) (pss_one (ps_set (i:=3) sc_law.nd rfl (by first | exact Or.inl rfl | exact Or.inr rfl) pe_str)) pss_nil)
      (pss_cons (ps_for PassesOwn.never rfl (pi_range1 rfl M.n_range (pa_cons pe_int pa_nil)) (pg_name (i:=7) sc_law.nd rfl (by first | exact Or.inl rfl | exact Or.inr rfl)) (pss_one (ps_if (pt_cmpR (op_neD2 h64) (pe_fn F_law_told (hr.mono (by omega)) rfl pass0 (pa_cons (pv 7) (pa_cons (pv 5) (pa_cons (pv 4) pa_nil)))) (pv 3) (nomark _)) (pss_one (ps_ret pe_bl)) pss_nil)))
      (pss_cons (ps_if (pt_not (pt_val (pe_fn F_law_first (hr.mono (by omega)) rfl pass0 (pa_cons (pv 5) (pa_cons (pv 4) pa_nil))))) (pss_one (ps_ret pe_bl)) pss_nil)
      (pss_cons (ps_expr (pe_fn F_stepped (hr.mono (by omega)) rfl passF (pa_cons (pe_tup (pa_cons pe_str (pa_cons (pe_tup (pa_cons pe_str (pa_cons (pe_tup (pa_cons pe_str pa_nil)) (pa_cons (pe_tup (pa_cons pe_str (pa_cons pe_int pa_nil))) pa_nil)))) (pa_cons (pe_tup (pa_cons pe_str pa_nil)) pa_nil)))) (pa_cons (pe_tup pa_nil) (pa_cons pe_dnewK pa_nil)))))
      (pss_one (ps_ret (pe_cmpR (op_eqD h64) (pe_fn F_law_told (hr.mono (by omega)) rfl pass0 (pa_cons pe_int (pa_cons (pv 5) (pa_cons (pv 4) pa_nil)))) (pv 3) (nomark _)))))))))))))))),?_⟩
  try dsimp only [cxK,cxK2]
  refine let9 ?_
  intro _ _ _ _ _ _ _ _ _
  refine ⟨(by show 1≤sizeLine; decide),fun p hp=>?_⟩
  have t1:=same_new hp (.lst [V.int 0])
  have T1':=tape_new hS hlen hp
  have b1:=hT.mono t1
  generalize upd H p (.lst [V.int 0])=H1 at t1 T1' b1 ⊢
  have A1:Ta K a p ns H1 H1 10:=⟨fun _ _ _ h=>h,0,by decide,T1'⟩
  refine ⟨_,rfl,_,rfl,a,p,ns,rfl,A1,fun v1 H2 A2 h2=>?_⟩
  have b2:=A1.tb A2.x b1
  have rz0:∀ {H':Hp} {p':Addr},H' p'=some (.tup [V.str "zero"])→Rep H' zeroD (.ref p'):=fun h=>rep_tup h (by decide +kernel) rfl
  have cz:cmpD zeroD=true:=by decide +kernel
  have dz:depth zeroD≤60:=by decide +kernel
  refine ⟨_,rfl,(by show 1≤sizeLine; decide),fun p3 hp3=>?_⟩
  have t3:=same_new hp3 (.tup [V.str "zero"])
  have y3:Rep (upd H2 p3 (.tup [V.str "zero"])) zeroD (.ref p3):=rz0 upd_same
  have A3:=A2.mono t3
  have b3:=b2.mono t3
  generalize upd H2 p3 (.tup [V.str "zero"])=H3 at t3 y3 A3 b3 ⊢
  rcases h2 with rz | ⟨ws,x,y,z,u,O,hg,r2⟩
  · exact ⟨zeroD,zeroD,true,rz.mono t3,y3,dz,dz,cz,cz,⟨fun _=>rfl,fun _=>rfl⟩,_,rfl,iteT (q _)⟩
  have r3:=r2.mono t3
  obtain ⟨d1,k1⟩:=not_great hg
  refine ⟨oneD ws x y z u,zeroD,false,r3,y3,by omega,dz,cmp_one ws x y z u,cz,⟨(fun h=>by cases h),(fun h=>by cases h)⟩,_,rfl,iteF ?_⟩
  clear rz0 y3 r2 A1 A2 b1 b2 t1 T1' hT hp3
  have od:=one_dp (ws:=ws) (a:=x) (c:=y) (p:=z) (q:=u)
  have hdb:depth (bdD ws x y)<58:=by omega
  obtain ⟨a1,us,rfl,ha1,v0,us,rfl,⟨rfl,_⟩,vf,us,rfl,rf,vo,us,rfl,ro,rn⟩:=id r3
  cases (show us=[] from rn)
  obtain ⟨a2,ws2,rfl,ha2,w0,ws2,rfl,⟨rfl,_⟩,w1,ws2,rfl,rk,w2,ws2,rfl,rb,rn⟩:=rf
  cases (show ws2=[] from rn)
  refine ⟨_,rfl,a1,_,_,_,rfl,rfl,SqT.of ha1,atI_nat (j:=1) rfl,a2,_,_,_,rfl,rfl,SqT.of ha2,atI_nat (j:=2) rfl,_,rfl,a1,_,_,_,rfl,rfl,SqT.of ha1,atI_nat (j:=2) rfl,?_⟩
  refine ⟨bdD ws x y,oD z u,w2,vo,0,0,rfl,rfl,rb,ro,⟨_,O.wb⟩,⟨_,O.wo⟩,hdb,by rw [o_dp]; decide,Int.le_refl 0,by decide,fun dv H4 s4 r4=>?_⟩
  rw [← place_eq (Int.le_refl 0) O.wo (by rw [o_dp]; decide) 58 0 (bdD ws x y) false (Int.le_refl 0) hdb O.wb] at r4
  have r4:Rep H4 (pinD (oD z u) 0 (bdD ws x y)) dv:=r4
  have A4:=A3.mono s4
  have b4:=b3.mono s4
  have q4:=r3.mono s4
  refine ⟨(by show 1≤sizeLine; decide),fun p5 hp5=>?_⟩
  have t5:=same_new hp5 (.tup [V.int 0])
  have h5:(upd H4 p5 (.tup [V.int 0])) p5=some (.tup [V.int 0]):=upd_same
  have A5:=A4.mono t5
  have b5:=b4.mono t5
  have q5:=q4.mono t5
  have r5:=r4.mono t5
  generalize upd H4 p5 (.tup [V.int 0])=H5 at t5 h5 A5 b5 q5 r5 ⊢
  refine ⟨_,rfl,_,rfl,draw_ta A5 (by decide) (by decide) fun kz H6 k0 kl x6 A6=>?_⟩
  obtain ⟨k,rfl⟩:∃ k:Nat,kz=(k:Int):=⟨kz.toNat,by omega⟩
  have n5:p5≠p:=fun e=>by
    obtain ⟨i,_,T⟩:=A5.t
    rw [e,T.tape] at h5
    cases h5
  have b6:=A5.tb x6 b5
  have q6:=A5.rep x6 q5
  have r6:=A5.rep x6 r5
  have h6:=x6 _ _ n5 h5
  refine ⟨p5,k,_,rfl,rfl,h6,by simp,by omega,(by show 1≤1000; decide),fun pp H7 s7 h7=>?_⟩
  have b7:=b6.mono s7
  have q7:=q6.mono s7
  have r7:=r6.mono s7
  have lpp:(List.replicate k [V.int 0]).flatten.length=k:=by rw [len_rep]; show k*1=k; omega
  clear q4 q5 q6 r4 r5 r6 b3 b4 b5 b6 h5 h6 A3 A4 A5 A6 x6 t5 s4 s7 hp5 ro rb rk ha1 ha2 r3 rn
  refine ⟨_,rfl,_,rfl,pp,_,rfl,.inr (SqT.of h7),_,rfl,(by rw [lpp]; omega),(by rw [lpp]; omega),?_⟩
  rw [lpp,show ((k:Nat):Int).toNat=k by omega]
  refine for_by k (fun j σ' H'=>∃ (v dv:V) (kv:Option V),σ'=[some (.ref a),some (.ref p),some (.ref a1),some dv,some (.ref pp),some v,kv,none]∧Same H7 H'∧Rep H' (rndL (nx6 j) (oneD ws x y z u)) v∧Rep H' (dueT ws x y z u j) dv) ⟨_,_,_,rfl,Same.refl _,q7,r7⟩ ?_ ?_
  · rintro j σ' H8 hj ⟨v,dv,kv,rfl,s8,r8,q8⟩
    refine ⟨hj,?_⟩
    rintro x' H9 ⟨rfl,rfl⟩
    refine ⟨_,rfl,(by show 2≤sizeLine; decide),fun c1 hc1=>?_⟩
    have u1:=same_new hc1 (.tup [V.str "next",v])
    have y1:Rep (upd H9 c1 (.tup [V.str "next",v])) (rndL (nx6 (j+1)) (oneD ws x y z u)) (.ref c1):=rep_tup upd_same (by decide +kernel) (reps1 (r8.mono u1))
    have q9:=q8.mono u1
    generalize upd H9 c1 (.tup [V.str "next",v])=H10 at u1 y1 q9 ⊢
    refine ⟨_,rfl,(by show 2≤sizeLine; decide),fun c2 hc2=>?_⟩
    have u2:=same_new hc2 (.tup [V.str "next",dv])
    exact ⟨_,_,_,rfl,s8.trans (u1.trans u2),y1.mono u2,rep_tup upd_same (by decide +kernel) (reps1 (q9.mono u2))⟩
  rintro σ' H8 ⟨v,dv,kv,rfl,s8,r8,q8⟩
  refine ⟨Nat.le_refl _,?_⟩
  have b8:=b7.mono s8
  have h8:=s8 _ _ h7
  have dT:=nx6_dp (d:=oneD ws x y z u) k
  refine ⟨_,rfl,_,v,rfl,r8,⟨⟨_,wf_rndL O.w1 _⟩,by omega,Nat.zero_le _⟩,fun H9 s9=>⟨_,rfl,?_⟩⟩
  refine ite2 (fun _=>q _) (fun c=>?_)
  have hg0:greatD (rndL (nx6 k) (oneD ws x y z u))=false:=Bool.eq_false_iff.mpr c
  obtain ⟨dd,_⟩:=not_great hg0
  obtain ⟨_,_,_,dpd,wpd⟩:=step_one (inb:=inB []) O dd
  have Tg:Thg H9 T1 T2 ws x y z u k v (.ref pp):=⟨O,r8.mono s9,dd,rep_pl (s9 _ _ h8),b8.mono s9⟩
  have q9:=q8.mono s9
  clear r8 q8 b8 h8 s8 s9 b7 q7 r7 h7
  refine ⟨fun σ' H'=>∃ (dv:V) (kv:Option V),σ'=[some (.ref a),some (.ref p),some (.ref a1),some dv,some (.ref pp),some v,kv,none]∧Same H9 H'∧Rep H' (dueV (dueT ws x y z u k)) dv,?_,?_⟩
  · refine ⟨_,rfl,_,dv,rfl,q9,⟨⟨_,wf_rndL wpd _⟩,by have:depth (dueT ws x y z u k)≤50:=dpd; omega,Nat.zero_le _⟩,fun H10 s10=>⟨_,rfl,?_⟩⟩
    refine ite2 (fun c=>⟨_,_,rfl,s10,rep_gr c⟩) (fun c=>⟨_,_,rfl,s10,rep_due (Bool.eq_false_iff.mpr c) (q9.mono s10)⟩)
  clear q9
  rintro σ' H10 ⟨dv,kv,rfl,s10,r10⟩
  have Tg:=Tg.mono s10
  have cd:=due_cm (cmp_due (ws:=ws) (a:=x) (c:=y) (p:=z) (q:=u) (k:=k) hdb)
  have dd2:=due_dp (d:=dueT ws x y z u k) (by have:depth (dueT ws x y z u k)≤50:=dpd; omega)
  clear s10 hg hg0
  refine ⟨2,rfl,(by decide),(by decide),?_⟩
  refine for_by 2 (fun j σ' H'=>∃ (kv wv:Option V),σ'=[some (.ref a),some (.ref p),some (.ref a1),some dv,some (.ref pp),some v,kv,wv]∧Same H10 H') ⟨_,_,rfl,Same.refl _⟩ ?_ ?_
  · rintro j σ' H11 hj ⟨kv,wv,rfl,s11⟩
    refine ⟨hj,?_⟩
    rintro x' H12 ⟨rfl,rfl⟩
    refine ⟨_,rfl,_,rfl,_,rfl,_,v,.ref pp,ws,x,y,z,u,k,rfl,Tg.mono s11,fun w1 H13 s13 r13=>?_⟩
    exact ⟨_,rfl,_,_,true,r13,r10.mono (s11.trans s13),dd2,dd2,cd,cd,⟨fun _=>rfl,fun _=>rfl⟩,_,rfl,iteF ⟨_,_,rfl,s11.trans s13⟩⟩
  rintro σ' H11 ⟨kv,wv,rfl,s11⟩
  refine ⟨Nat.le_refl _,?_⟩
  have Tg:=Tg.mono s11
  have r11:=r10.mono s11
  refine ⟨_,rfl,_,rfl,v,.ref pp,ws,x,y,z,u,k,rfl,Tg,fun H12 s12=>⟨true,rfl,iteF ?_⟩⟩
  have Tg:=Tg.mono s12
  have r12:=r11.mono s12
  clear r10 r11 s11 s12
  refine ⟨(by show 1≤sizeLine; decide),fun c1 hc1=>?_⟩
  obtain ⟨u1,y1⟩:=leaf_new "nat" hc1 (by decide +kernel)
  generalize upd H12 c1 (.tup [V.str "nat"])=H13 at u1 y1 ⊢
  refine ⟨(by show 2≤sizeLine; decide),fun c2 hc2=>?_⟩
  have u2:=same_new hc2 (.tup [V.str "var",.int 0])
  have y2:Rep (upd H13 c2 (.tup [V.str "var",.int 0])) (vrD 0) (.ref c2):=rep_tup upd_same (by decide +kernel) (reps1 rfl)
  generalize upd H13 c2 (.tup [V.str "var",.int 0])=H14 at u2 y2 ⊢
  refine ⟨(by show 3≤sizeLine; decide),fun c3 hc3=>?_⟩
  have u3:=same_new hc3 (.tup [V.str "fun",.ref c1,.ref c2])
  have y3:Rep (upd H14 c3 (.tup [V.str "fun",.ref c1,.ref c2])) (.tup [.str "fun",natD,vrD 0]) (.ref c3):=rep_tup upd_same (by decide +kernel) (reps2 (y1.mono (u2.trans u3)) (y2.mono u3))
  generalize upd H14 c3 (.tup [V.str "fun",.ref c1,.ref c2])=H15 at u3 y3 ⊢
  refine ⟨(by show 1≤sizeLine; decide),fun c4 hc4=>?_⟩
  obtain ⟨u4,y4⟩:=leaf_new "zero" hc4 (by decide +kernel)
  generalize upd H15 c4 (.tup [V.str "zero"])=H16 at u4 y4 ⊢
  refine ⟨(by show 3≤sizeLine; decide),fun c5 hc5=>?_⟩
  have u5:=same_new hc5 (.tup [V.str "app",.ref c3,.ref c4])
  have y5:Rep (upd H16 c5 (.tup [V.str "app",.ref c3,.ref c4])) (apD (.tup [.str "fun",natD,vrD 0]) zeroD) (.ref c5):=rep_tup upd_same (by decide +kernel) (reps2 (y3.mono (u4.trans u5)) (y4.mono u5))
  generalize upd H16 c5 (.tup [V.str "app",.ref c3,.ref c4])=H17 at u5 y5 ⊢
  refine ⟨(by show 0≤sizeLine; decide),fun c6 hc6=>?_⟩
  have u6:=same_new hc6 (.tup [])
  have h6:(upd H17 c6 (.tup [])) c6=some (.tup []):=upd_same
  generalize upd H17 c6 (.tup [])=H18 at u6 h6 ⊢
  intro c7 hc7
  have u7:=same_new hc7 (.dK [])
  have h7:(upd H18 c7 (.dK [])) c7=some (.dK []):=upd_same
  generalize upd H18 c7 (.dK [])=H19 at u7 h7 ⊢
  have s19:=u1.trans (u2.trans (u3.trans (u4.trans (u5.trans (u6.trans u7)))))
  have Tg:=Tg.mono s19
  have r19:=r12.mono s19
  have ep:pinD zeroD 0 (vrD 0)=zeroD:=by kernel_rfl
  have wz:wfG isStrD false zeroD=true:=wf_zero
  have ok:StOk (inB []) (apD (.tup [.str "fun",natD,vrD 0]) zeroD) [] "fun" zeroD false:=by
    refine ⟨⟨_,rfl,⟨_,wf_ap (wf_rnd (wf_varA (Int.le_refl 0)) 3) wz⟩,by kernel_rfl,.inl ⟨rfl,natD,vrD 0,zeroD,rfl,⟨_,wf_varA (Int.le_refl 0)⟩,⟨_,wz⟩,by decide +kernel,by decide +kernel,ep.symm,by kernel_rfl,⟨⟨_,wz⟩,by decide +kernel,Nat.zero_le _⟩⟩⟩,⟨_,wf_ap (wf_rnd (wf_varA (Int.le_refl 0)) 3) wz⟩,by decide,⟨⟨_,wz⟩,by decide +kernel,Nat.zero_le _⟩⟩
  have ng:(false || greatD zeroD)=false:=by kernel_rfl
  refine ⟨_,zeroD,.ref c5,.ref c6,[],c7,[], "fun",false,rfl,y5.mono (u6.trans u7),⟨c6,[],rfl,u7 _ _ h6,rfl⟩,h7,ok,Tg.t,fun zv H20 s20 _ _=>?_,fun H20 s20 hgt=>?_⟩
  · have Tg:=Tg.mono s20
    have r20:=r19.mono s20
    refine ⟨_,rfl,_,rfl,0,v,.ref pp,ws,x,y,z,u,k,rfl,Tg,fun w1 H21 s21 r21=>?_⟩
    exact ⟨_,rfl,_,_,true,r21,r20.mono s21,dd2,dd2,cd,cd,⟨fun _=>rfl,fun _=>rfl⟩,q _⟩
  · have hgt:(false || greatD zeroD)=true:=hgt
    rw [ng] at hgt
    cases hgt
end K27
end
section
set_option maxHeartbeats 4000000
namespace K27
open PySem L2 L3 KM
structure Txt (K:PySem.W.Frag) (mg:Str→Option Value) (t:Adr):Prop where
  M:Mg mg t
  D_is_number:Df K mg "is_number" s_is_number ["value"]
  D_is_vast:Df K mg "is_vast" s_is_vast ["value"]
  D_kids_of:Df K mg "kids_of" s_kids_of ["thing"]
  D_binds_of:Df K mg "binds_of" s_binds_of ["thing"]
  D_top_variable:Df K mg "top_variable" s_top_variable ["thing"]
  D_bounded:Df K mg "bounded" s_bounded ["thing"]
  D_rebuilt:Df K mg "rebuilt" s_rebuilt ["thing", "kids"]
  D_kid_at:Df K mg "kid_at" s_kid_at ["thing", "number"]
  D_at_place:Df K mg "at_place" s_at_place ["thing", "place"]
  D_changed_at:Df K mg "changed_at" s_changed_at ["thing", "place", "new"]
  D_with_at:Df K mg "with_at" s_with_at ["thing", "place", "new"]
  D_with_free:Df K mg "with_free" s_with_free ["thing", "binders", "change"]
  D_raised:Df K mg "raised" s_raised ["thing", "by", "low"]
  D_put_in:Df K mg "put_in" s_put_in ["thing", "other", "at"]
  D_rule_of:Df K mg "rule_of" s_rule_of ["thing", "book"]
  D_after_next:Df K mg "after_next" s_after_next ["thing"]
  D_after_rule:Df K mg "after_rule" s_after_rule ["thing", "rule", "book"]
  D_stepped:Df K mg "stepped" s_stepped ["thing", "place", "book"]
  D_first_step:Df K mg "first_step" s_first_step ["thing", "book"]
  D_normal:Df K mg "normal" s_normal ["thing", "fuel", "book"]
  D_walked:Df K mg "walked" s_walked ["thing", "log", "book"]
  D_law_draw:Df K mg "_law_draw" s_law_draw ["_law_script", "_law_tape", "_law_many"]
  D_law_kids:Df K mg "_law_kids" s_law_kids ["_law_thing"]
  D_law_measured:Df K mg "_law_measured" s_law_measured ["_law_thing"]
  D_law_great:Df K mg "_law_great" s_law_great ["_law_thing"]
  D_law_over:Df K mg "_law_over" s_law_over ["_law_thing", "_law_number"]
  D_law_moved:Df K mg "_law_moved" s_law_moved ["_law_thing", "_law_by", "_law_low"]
  D_law_put:Df K mg "_law_put" s_law_put ["_law_thing", "_law_other", "_law_over_here"]
  D_law_round:Df K mg "_law_round" s_law_round ["_law_way", "_law_thing"]
  D_law_deep:Df K mg "_law_deep" s_law_deep ["_law_script", "_law_tape"]
  D_law_told:Df K mg "_law_told" s_law_told ["_law_way", "_law_thing", "_law_place"]
  D_law_first:Df K mg "_law_first" s_law_first ["_law_thing", "_law_place"]
  D_law:Df K mg "law" s_law ["_law_script"]
  T_KIDS_DUE:∃ as,KD K t.KIDS_DUE [("nat",[]),("none",[]),("all",[.str "kind",.str "kind"]),("some",[.str "kind",.str "kind"]),("same",[.str "kind",.str "term",.str "term"]),("var",[]),("fun",[.str "kind",.str "term"]),("app",[.str "term",.str "term"]),("zero",[]),("next",[.str "term"]),("rec",[.str "kind",.str "term",.str "term",.str "term"]),("like",[.str "kind",.str "term"]),("carry",[.str "kind",.str "term",.str "term"]),("never",[.str "kind",.str "term"]),("pair",[.str "kind",.str "term",.str "term"]),("first",[.str "term"]),("second",[.str "term"]),("name",[])] as
  T_BINDER_OVER:TabK K t.BINDER_OVER [("all",.int 1),("some",.int 1),("fun",.int 1),("rec",.int 0),("carry",.int 0)]
  T_RULES:Rul K t.RULES
  X:Ek K t
theorem txt_mk {K:PySem.W.Frag} {h:Heap} {mg:Str→Option Value} (X:K.In h) (G:h.Ns mainGlobals mg)
    {tk_MOST_KNOTS:Tok}
    {tk_MOST_DEEP:Tok}
    {tk_MOST_VARIABLE:Tok}
    {t_KIDS_DUE:Addr}
    {es_KIDS_DUE:Array DictEntry} {ep_KIDS_DUE:Nat}
    {b0_KIDS_DUE b1_KIDS_DUE b2_KIDS_DUE b3_KIDS_DUE b4_KIDS_DUE b5_KIDS_DUE b6_KIDS_DUE b7_KIDS_DUE b8_KIDS_DUE b9_KIDS_DUE b10_KIDS_DUE b11_KIDS_DUE b12_KIDS_DUE b13_KIDS_DUE b14_KIDS_DUE b15_KIDS_DUE b16_KIDS_DUE b17_KIDS_DUE:Addr}
    {d17_KIDS_DUE:Option Addr} {i17_KIDS_DUE:Array Value} {n17_KIDS_DUE:Nat} {s17_KIDS_DUE:Array (Option Value)}
    {d16_KIDS_DUE:Option Addr} {i16_KIDS_DUE:Array Value} {n16_KIDS_DUE:Nat} {s16_KIDS_DUE:Array (Option Value)}
    {d15_KIDS_DUE:Option Addr} {i15_KIDS_DUE:Array Value} {n15_KIDS_DUE:Nat} {s15_KIDS_DUE:Array (Option Value)}
    {d14_KIDS_DUE:Option Addr} {i14_KIDS_DUE:Array Value} {n14_KIDS_DUE:Nat} {s14_KIDS_DUE:Array (Option Value)}
    {d13_KIDS_DUE:Option Addr} {i13_KIDS_DUE:Array Value} {n13_KIDS_DUE:Nat} {s13_KIDS_DUE:Array (Option Value)}
    {d12_KIDS_DUE:Option Addr} {i12_KIDS_DUE:Array Value} {n12_KIDS_DUE:Nat} {s12_KIDS_DUE:Array (Option Value)}
    {d11_KIDS_DUE:Option Addr} {i11_KIDS_DUE:Array Value} {n11_KIDS_DUE:Nat} {s11_KIDS_DUE:Array (Option Value)}
    {d10_KIDS_DUE:Option Addr} {i10_KIDS_DUE:Array Value} {n10_KIDS_DUE:Nat} {s10_KIDS_DUE:Array (Option Value)}
    {d9_KIDS_DUE:Option Addr} {i9_KIDS_DUE:Array Value} {n9_KIDS_DUE:Nat} {s9_KIDS_DUE:Array (Option Value)}
    {d8_KIDS_DUE:Option Addr} {i8_KIDS_DUE:Array Value} {n8_KIDS_DUE:Nat} {s8_KIDS_DUE:Array (Option Value)}
    {d7_KIDS_DUE:Option Addr} {i7_KIDS_DUE:Array Value} {n7_KIDS_DUE:Nat} {s7_KIDS_DUE:Array (Option Value)}
    {d6_KIDS_DUE:Option Addr} {i6_KIDS_DUE:Array Value} {n6_KIDS_DUE:Nat} {s6_KIDS_DUE:Array (Option Value)}
    {d5_KIDS_DUE:Option Addr} {i5_KIDS_DUE:Array Value} {n5_KIDS_DUE:Nat} {s5_KIDS_DUE:Array (Option Value)}
    {d4_KIDS_DUE:Option Addr} {i4_KIDS_DUE:Array Value} {n4_KIDS_DUE:Nat} {s4_KIDS_DUE:Array (Option Value)}
    {d3_KIDS_DUE:Option Addr} {i3_KIDS_DUE:Array Value} {n3_KIDS_DUE:Nat} {s3_KIDS_DUE:Array (Option Value)}
    {d2_KIDS_DUE:Option Addr} {i2_KIDS_DUE:Array Value} {n2_KIDS_DUE:Nat} {s2_KIDS_DUE:Array (Option Value)}
    {d1_KIDS_DUE:Option Addr} {i1_KIDS_DUE:Array Value} {n1_KIDS_DUE:Nat} {s1_KIDS_DUE:Array (Option Value)}
    {d0_KIDS_DUE:Option Addr} {i0_KIDS_DUE:Array Value} {n0_KIDS_DUE:Nat} {s0_KIDS_DUE:Array (Option Value)}
    {t_BINDER_OVER:Addr}
    {es_BINDER_OVER:Array DictEntry} {ep_BINDER_OVER:Nat}
    {t_RULES:Addr}
    {es_RULES:Array DictEntry} {ep_RULES:Nat}
    {b0_RULES b1_RULES b2_RULES b3_RULES b4_RULES:Addr}
    {b0_0_RULES:Addr}
    {d0_RULES:Option Addr} {i0_RULES:Array Value} {n0_RULES:Nat} {s0_RULES:Array (Option Value)}
    {d0_0_RULES:Option Addr} {i0_0_RULES:Array Value} {n0_0_RULES:Nat} {s0_0_RULES:Array (Option Value)}
    {b1_0_RULES b1_1_RULES:Addr}
    {d1_RULES:Option Addr} {i1_RULES:Array Value} {n1_RULES:Nat} {s1_RULES:Array (Option Value)}
    {d1_0_RULES:Option Addr} {i1_0_RULES:Array Value} {n1_0_RULES:Nat} {s1_0_RULES:Array (Option Value)}
    {d1_1_RULES:Option Addr} {i1_1_RULES:Array Value} {n1_1_RULES:Nat} {s1_1_RULES:Array (Option Value)}
    {b2_0_RULES:Addr}
    {d2_RULES:Option Addr} {i2_RULES:Array Value} {n2_RULES:Nat} {s2_RULES:Array (Option Value)}
    {d2_0_RULES:Option Addr} {i2_0_RULES:Array Value} {n2_0_RULES:Nat} {s2_0_RULES:Array (Option Value)}
    {b3_0_RULES:Addr}
    {d3_RULES:Option Addr} {i3_RULES:Array Value} {n3_RULES:Nat} {s3_RULES:Array (Option Value)}
    {d3_0_RULES:Option Addr} {i3_0_RULES:Array Value} {n3_0_RULES:Nat} {s3_0_RULES:Array (Option Value)}
    {b4_0_RULES:Addr}
    {d4_RULES:Option Addr} {i4_RULES:Array Value} {n4_RULES:Nat} {s4_RULES:Array (Option Value)}
    {d4_0_RULES:Option Addr} {i4_0_RULES:Array Value} {n4_0_RULES:Nat} {s4_0_RULES:Array (Option Value)}
    {t_Great:Addr}
    {t_NoPlace:Addr}
    {t_NoStep:Addr}
    {t_Dry:Addr}
    (a0:DfIn K "is_number" s_is_number)
    (a1:DfIn K "is_vast" s_is_vast)
    (a2:DfIn K "kids_of" s_kids_of)
    (a3:DfIn K "binds_of" s_binds_of)
    (a4:DfIn K "top_variable" s_top_variable)
    (a5:DfIn K "bounded" s_bounded)
    (a6:DfIn K "rebuilt" s_rebuilt)
    (a7:DfIn K "kid_at" s_kid_at)
    (a8:DfIn K "at_place" s_at_place)
    (a9:DfIn K "changed_at" s_changed_at)
    (a10:DfIn K "with_at" s_with_at)
    (a11:DfIn K "with_free" s_with_free)
    (a12:DfIn K "raised" s_raised)
    (a13:DfIn K "put_in" s_put_in)
    (a14:DfIn K "rule_of" s_rule_of)
    (a15:DfIn K "after_next" s_after_next)
    (a16:DfIn K "after_rule" s_after_rule)
    (a17:DfIn K "stepped" s_stepped)
    (a18:DfIn K "first_step" s_first_step)
    (a19:DfIn K "normal" s_normal)
    (a20:DfIn K "walked" s_walked)
    (a21:DfIn K "_law_draw" s_law_draw)
    (a22:DfIn K "_law_kids" s_law_kids)
    (a23:DfIn K "_law_measured" s_law_measured)
    (a24:DfIn K "_law_great" s_law_great)
    (a25:DfIn K "_law_over" s_law_over)
    (a26:DfIn K "_law_moved" s_law_moved)
    (a27:DfIn K "_law_put" s_law_put)
    (a28:DfIn K "_law_round" s_law_round)
    (a29:DfIn K "_law_deep" s_law_deep)
    (a30:DfIn K "_law_told" s_law_told)
    (a31:DfIn K "_law_first" s_law_first)
    (a32:DfIn K "law" s_law)
    (z_bool:PySem.W.nsIn K mainGlobals "bool" = some none)
    (z_enumerate:PySem.W.nsIn K mainGlobals "enumerate" = some none)
    (z_int:PySem.W.nsIn K mainGlobals "int" = some none)
    (z_isinstance:PySem.W.nsIn K mainGlobals "isinstance" = some none)
    (z_len:PySem.W.nsIn K mainGlobals "len" = some none)
    (z_list:PySem.W.nsIn K mainGlobals "list" = some none)
    (z_max:PySem.W.nsIn K mainGlobals "max" = some none)
    (z_range:PySem.W.nsIn K mainGlobals "range" = some none)
    (z_tuple:PySem.W.nsIn K mainGlobals "tuple" = some none)
    (z_zip:PySem.W.nsIn K mainGlobals "zip" = some none)
    (g_MOST_KNOTS:PySem.W.nsIn K mainGlobals "MOST_KNOTS" = some (some (.int 600 tk_MOST_KNOTS)))
    (g_MOST_DEEP:PySem.W.nsIn K mainGlobals "MOST_DEEP" = some (some (.int 40 tk_MOST_DEEP)))
    (g_MOST_VARIABLE:PySem.W.nsIn K mainGlobals "MOST_VARIABLE" = some (some (.int 99 tk_MOST_VARIABLE)))
    (g_KIDS_DUE:PySem.W.nsIn K mainGlobals "KIDS_DUE" = some (some (.ref t_KIDS_DUE)))
    (lk_KIDS_DUE:K.lookup t_KIDS_DUE=some ⟨.type "dict",none,.dict es_KIDS_DUE ep_KIDS_DUE,#[]⟩)
    (sy_KIDS_DUE:(t_KIDS_DUE==sysModules)=false)
    (ks_KIDS_DUE:rowsChk es_KIDS_DUE.toList ["nat", "none", "all", "some", "same", "var", "fun", "app", "zero", "next", "rec", "like", "carry", "never", "pair", "first", "second", "name"]=true)
    (rf_KIDS_DUE:refsOf es_KIDS_DUE.toList=[b0_KIDS_DUE,b1_KIDS_DUE,b2_KIDS_DUE,b3_KIDS_DUE,b4_KIDS_DUE,b5_KIDS_DUE,b6_KIDS_DUE,b7_KIDS_DUE,b8_KIDS_DUE,b9_KIDS_DUE,b10_KIDS_DUE,b11_KIDS_DUE,b12_KIDS_DUE,b13_KIDS_DUE,b14_KIDS_DUE,b15_KIDS_DUE,b16_KIDS_DUE,b17_KIDS_DUE])
    (u0_KIDS_DUE:K.lookup b0_KIDS_DUE=some ⟨.type "tuple",d0_KIDS_DUE,.seq i0_KIDS_DUE n0_KIDS_DUE,s0_KIDS_DUE⟩)
    (v0_KIDS_DUE:seqChk [] i0_KIDS_DUE=true)
    (u1_KIDS_DUE:K.lookup b1_KIDS_DUE=some ⟨.type "tuple",d1_KIDS_DUE,.seq i1_KIDS_DUE n1_KIDS_DUE,s1_KIDS_DUE⟩)
    (v1_KIDS_DUE:seqChk [] i1_KIDS_DUE=true)
    (u2_KIDS_DUE:K.lookup b2_KIDS_DUE=some ⟨.type "tuple",d2_KIDS_DUE,.seq i2_KIDS_DUE n2_KIDS_DUE,s2_KIDS_DUE⟩)
    (v2_KIDS_DUE:seqChk [.str "kind",.str "kind"] i2_KIDS_DUE=true)
    (u3_KIDS_DUE:K.lookup b3_KIDS_DUE=some ⟨.type "tuple",d3_KIDS_DUE,.seq i3_KIDS_DUE n3_KIDS_DUE,s3_KIDS_DUE⟩)
    (v3_KIDS_DUE:seqChk [.str "kind",.str "kind"] i3_KIDS_DUE=true)
    (u4_KIDS_DUE:K.lookup b4_KIDS_DUE=some ⟨.type "tuple",d4_KIDS_DUE,.seq i4_KIDS_DUE n4_KIDS_DUE,s4_KIDS_DUE⟩)
    (v4_KIDS_DUE:seqChk [.str "kind",.str "term",.str "term"] i4_KIDS_DUE=true)
    (u5_KIDS_DUE:K.lookup b5_KIDS_DUE=some ⟨.type "tuple",d5_KIDS_DUE,.seq i5_KIDS_DUE n5_KIDS_DUE,s5_KIDS_DUE⟩)
    (v5_KIDS_DUE:seqChk [] i5_KIDS_DUE=true)
    (u6_KIDS_DUE:K.lookup b6_KIDS_DUE=some ⟨.type "tuple",d6_KIDS_DUE,.seq i6_KIDS_DUE n6_KIDS_DUE,s6_KIDS_DUE⟩)
    (v6_KIDS_DUE:seqChk [.str "kind",.str "term"] i6_KIDS_DUE=true)
    (u7_KIDS_DUE:K.lookup b7_KIDS_DUE=some ⟨.type "tuple",d7_KIDS_DUE,.seq i7_KIDS_DUE n7_KIDS_DUE,s7_KIDS_DUE⟩)
    (v7_KIDS_DUE:seqChk [.str "term",.str "term"] i7_KIDS_DUE=true)
    (u8_KIDS_DUE:K.lookup b8_KIDS_DUE=some ⟨.type "tuple",d8_KIDS_DUE,.seq i8_KIDS_DUE n8_KIDS_DUE,s8_KIDS_DUE⟩)
    (v8_KIDS_DUE:seqChk [] i8_KIDS_DUE=true)
    (u9_KIDS_DUE:K.lookup b9_KIDS_DUE=some ⟨.type "tuple",d9_KIDS_DUE,.seq i9_KIDS_DUE n9_KIDS_DUE,s9_KIDS_DUE⟩)
    (v9_KIDS_DUE:seqChk [.str "term"] i9_KIDS_DUE=true)
    (u10_KIDS_DUE:K.lookup b10_KIDS_DUE=some ⟨.type "tuple",d10_KIDS_DUE,.seq i10_KIDS_DUE n10_KIDS_DUE,s10_KIDS_DUE⟩)
    (v10_KIDS_DUE:seqChk [.str "kind",.str "term",.str "term",.str "term"] i10_KIDS_DUE=true)
    (u11_KIDS_DUE:K.lookup b11_KIDS_DUE=some ⟨.type "tuple",d11_KIDS_DUE,.seq i11_KIDS_DUE n11_KIDS_DUE,s11_KIDS_DUE⟩)
    (v11_KIDS_DUE:seqChk [.str "kind",.str "term"] i11_KIDS_DUE=true)
    (u12_KIDS_DUE:K.lookup b12_KIDS_DUE=some ⟨.type "tuple",d12_KIDS_DUE,.seq i12_KIDS_DUE n12_KIDS_DUE,s12_KIDS_DUE⟩)
    (v12_KIDS_DUE:seqChk [.str "kind",.str "term",.str "term"] i12_KIDS_DUE=true)
    (u13_KIDS_DUE:K.lookup b13_KIDS_DUE=some ⟨.type "tuple",d13_KIDS_DUE,.seq i13_KIDS_DUE n13_KIDS_DUE,s13_KIDS_DUE⟩)
    (v13_KIDS_DUE:seqChk [.str "kind",.str "term"] i13_KIDS_DUE=true)
    (u14_KIDS_DUE:K.lookup b14_KIDS_DUE=some ⟨.type "tuple",d14_KIDS_DUE,.seq i14_KIDS_DUE n14_KIDS_DUE,s14_KIDS_DUE⟩)
    (v14_KIDS_DUE:seqChk [.str "kind",.str "term",.str "term"] i14_KIDS_DUE=true)
    (u15_KIDS_DUE:K.lookup b15_KIDS_DUE=some ⟨.type "tuple",d15_KIDS_DUE,.seq i15_KIDS_DUE n15_KIDS_DUE,s15_KIDS_DUE⟩)
    (v15_KIDS_DUE:seqChk [.str "term"] i15_KIDS_DUE=true)
    (u16_KIDS_DUE:K.lookup b16_KIDS_DUE=some ⟨.type "tuple",d16_KIDS_DUE,.seq i16_KIDS_DUE n16_KIDS_DUE,s16_KIDS_DUE⟩)
    (v16_KIDS_DUE:seqChk [.str "term"] i16_KIDS_DUE=true)
    (u17_KIDS_DUE:K.lookup b17_KIDS_DUE=some ⟨.type "tuple",d17_KIDS_DUE,.seq i17_KIDS_DUE n17_KIDS_DUE,s17_KIDS_DUE⟩)
    (v17_KIDS_DUE:seqChk [] i17_KIDS_DUE=true)
    (g_BINDER_OVER:PySem.W.nsIn K mainGlobals "BINDER_OVER" = some (some (.ref t_BINDER_OVER)))
    (lk_BINDER_OVER:K.lookup t_BINDER_OVER=some ⟨.type "dict",none,.dict es_BINDER_OVER ep_BINDER_OVER,#[]⟩)
    (sy_BINDER_OVER:(t_BINDER_OVER==sysModules)=false)
    (vs_BINDER_OVER:intRows es_BINDER_OVER.toList [("all",1),("some",1),("fun",1),("rec",0),("carry",0)]=true)
    (g_RULES:PySem.W.nsIn K mainGlobals "RULES" = some (some (.ref t_RULES)))
    (lk_RULES:K.lookup t_RULES=some ⟨.type "dict",none,.dict es_RULES ep_RULES,#[]⟩)
    (sy_RULES:(t_RULES==sysModules)=false)
    (ks_RULES:rowsChk es_RULES.toList ["app", "rec", "carry", "first", "second"]=true)
    (rf_RULES:refsOf es_RULES.toList=[b0_RULES,b1_RULES,b2_RULES,b3_RULES,b4_RULES])
    (u0_RULES:K.lookup b0_RULES=some ⟨.type "tuple",d0_RULES,.seq i0_RULES n0_RULES,s0_RULES⟩)
    (v0_RULES:i0_RULES.toList=[Value.ref b0_0_RULES])
    (u0_0_RULES:K.lookup b0_0_RULES=some ⟨.type "tuple",d0_0_RULES,.seq i0_0_RULES n0_0_RULES,s0_0_RULES⟩)
    (v0_0_RULES:seqChk [.int 1,.str "fun",.str "fun"] i0_0_RULES=true)
    (u1_RULES:K.lookup b1_RULES=some ⟨.type "tuple",d1_RULES,.seq i1_RULES n1_RULES,s1_RULES⟩)
    (v1_RULES:i1_RULES.toList=[Value.ref b1_0_RULES,Value.ref b1_1_RULES])
    (u1_0_RULES:K.lookup b1_0_RULES=some ⟨.type "tuple",d1_0_RULES,.seq i1_0_RULES n1_0_RULES,s1_0_RULES⟩)
    (v1_0_RULES:seqChk [.int 4,.str "zero",.str "zero"] i1_0_RULES=true)
    (u1_1_RULES:K.lookup b1_1_RULES=some ⟨.type "tuple",d1_1_RULES,.seq i1_1_RULES n1_1_RULES,s1_1_RULES⟩)
    (v1_1_RULES:seqChk [.int 4,.str "next",.str "next"] i1_1_RULES=true)
    (u2_RULES:K.lookup b2_RULES=some ⟨.type "tuple",d2_RULES,.seq i2_RULES n2_RULES,s2_RULES⟩)
    (v2_RULES:i2_RULES.toList=[Value.ref b2_0_RULES])
    (u2_0_RULES:K.lookup b2_0_RULES=some ⟨.type "tuple",d2_0_RULES,.seq i2_0_RULES n2_0_RULES,s2_0_RULES⟩)
    (v2_0_RULES:seqChk [.int 3,.str "like",.str "like"] i2_0_RULES=true)
    (u3_RULES:K.lookup b3_RULES=some ⟨.type "tuple",d3_RULES,.seq i3_RULES n3_RULES,s3_RULES⟩)
    (v3_RULES:i3_RULES.toList=[Value.ref b3_0_RULES])
    (u3_0_RULES:K.lookup b3_0_RULES=some ⟨.type "tuple",d3_0_RULES,.seq i3_0_RULES n3_0_RULES,s3_0_RULES⟩)
    (v3_0_RULES:seqChk [.int 1,.str "pair",.str "first"] i3_0_RULES=true)
    (u4_RULES:K.lookup b4_RULES=some ⟨.type "tuple",d4_RULES,.seq i4_RULES n4_RULES,s4_RULES⟩)
    (v4_RULES:i4_RULES.toList=[Value.ref b4_0_RULES])
    (u4_0_RULES:K.lookup b4_0_RULES=some ⟨.type "tuple",d4_0_RULES,.seq i4_0_RULES n4_0_RULES,s4_0_RULES⟩)
    (v4_0_RULES:seqChk [.int 1,.str "pair",.str "second"] i4_0_RULES=true)
    (g_Great:PySem.W.nsIn K mainGlobals "Great" = some (some (.ref t_Great)))
    (g_NoPlace:PySem.W.nsIn K mainGlobals "NoPlace" = some (some (.ref t_NoPlace)))
    (g_NoStep:PySem.W.nsIn K mainGlobals "NoStep" = some (some (.ref t_NoStep)))
    (g_Dry:PySem.W.nsIn K mainGlobals "Dry" = some (some (.ref t_Dry)))
    (x_gr:PySem.W.excIn K t_Great [.type "ValueError",.type "Exception",.type "BaseException",.type "object"] "ValueError.__new__" = true)
    (x_dr:PySem.W.excIn K t_Dry [.type "ValueError",.type "Exception",.type "BaseException",.type "object"] "ValueError.__new__" = true)
    (x_ns:PySem.W.excIn K t_NoStep [.type "ValueError",.type "Exception",.type "BaseException",.type "object"] "ValueError.__new__" = true)
    (x_np:PySem.W.excIn K t_NoPlace [.type "ValueError",.type "Exception",.type "BaseException",.type "object"] "ValueError.__new__" = true)
    (x_s1:PySem.W.subIn K (.ref t_Great) (.ref t_Great)=some true)
    (x_s2:PySem.W.subIn K (.ref t_Great) (.ref t_Dry)=some false):∃ t,Txt K mg t :=
  ⟨⟨(),t_KIDS_DUE,t_BINDER_OVER,t_RULES,t_Great,t_NoPlace,t_NoStep,t_Dry⟩,⟨⟨PySem.W.mg_none_of X G z_bool,PySem.W.mg_none_of X G z_enumerate,PySem.W.mg_none_of X G z_int,PySem.W.mg_none_of X G z_isinstance,PySem.W.mg_none_of X G z_len,PySem.W.mg_none_of X G z_list,PySem.W.mg_none_of X G z_max,PySem.W.mg_none_of X G z_range,PySem.W.mg_none_of X G z_tuple,PySem.W.mg_none_of X G z_zip,⟨_,PySem.W.mg_of X G g_MOST_KNOTS⟩,⟨_,PySem.W.mg_of X G g_MOST_DEEP⟩,⟨_,PySem.W.mg_of X G g_MOST_VARIABLE⟩,PySem.W.mg_of X G g_KIDS_DUE,PySem.W.mg_of X G g_BINDER_OVER,PySem.W.mg_of X G g_RULES,PySem.W.mg_of X G g_Great,PySem.W.mg_of X G g_NoPlace,PySem.W.mg_of X G g_NoStep,PySem.W.mg_of X G g_Dry⟩,a0.df X G fun _ _ _ _ _ _=>by1 (fun _=>rfl),a1.df X G fun _ _ _ _ _ _=>by1 (fun _=>rfl),a2.df X G fun _ _ _ _ _ _=>by1 (fun _=>rfl),a3.df X G fun _ _ _ _ _ _=>by1 (fun _=>rfl),a4.df X G fun _ _ _ _ _ _=>by1 (fun _=>rfl),a5.df X G fun _ _ _ _ _ _=>by1 (fun _=>rfl),a6.df X G fun _ _ _ _ _ _=>by2 (fun _ _=>rfl),a7.df X G fun _ _ _ _ _ _=>by2 (fun _ _=>rfl),a8.df X G fun _ _ _ _ _ _=>by2 (fun _ _=>rfl),a9.df X G fun _ _ _ _ _ _=>by3 (fun _ _ _=>rfl),a10.df X G fun _ _ _ _ _ _=>by3 (fun _ _ _=>rfl),a11.df X G fun _ _ _ _ _ _=>by3 (fun _ _ _=>rfl),a12.df X G fun _ _ _ _ _ _=>by3 (fun _ _ _=>rfl),a13.df X G fun _ _ _ _ _ _=>by3 (fun _ _ _=>rfl),a14.df X G fun _ _ _ _ _ _=>by2 (fun _ _=>rfl),a15.df X G fun _ _ _ _ _ _=>by1 (fun _=>rfl),a16.df X G fun _ _ _ _ _ _=>by3 (fun _ _ _=>rfl),a17.df X G fun _ _ _ _ _ _=>by3 (fun _ _ _=>rfl),a18.df X G fun _ _ _ _ _ _=>by2 (fun _ _=>rfl),a19.df X G fun _ _ _ _ _ _=>by3 (fun _ _ _=>rfl),a20.df X G fun _ _ _ _ _ _=>by3 (fun _ _ _=>rfl),a21.df X G fun _ _ _ _ _ _=>by3 (fun _ _ _=>rfl),a22.df X G fun _ _ _ _ _ _=>by1 (fun _=>rfl),a23.df X G fun _ _ _ _ _ _=>by1 (fun _=>rfl),a24.df X G fun _ _ _ _ _ _=>by1 (fun _=>rfl),a25.df X G fun _ _ _ _ _ _=>by2 (fun _ _=>rfl),a26.df X G fun _ _ _ _ _ _=>by3 (fun _ _ _=>rfl),a27.df X G fun _ _ _ _ _ _=>by3 (fun _ _ _=>rfl),a28.df X G fun _ _ _ _ _ _=>by2 (fun _ _=>rfl),a29.df X G fun _ _ _ _ _ _=>by2 (fun _ _=>rfl),a30.df X G fun _ _ _ _ _ _=>by3 (fun _ _ _=>rfl),a31.df X G fun _ _ _ _ _ _=>by2 (fun _ _=>rfl),a32.df X G fun _ _ _ _ _ _=>by1 (fun _=>rfl),⟨_,kd_mk sy_KIDS_DUE lk_KIDS_DUE ks_KIDS_DUE rf_KIDS_DUE rfl (sq_cons (sqk_mk u0_KIDS_DUE v0_KIDS_DUE) (sq_cons (sqk_mk u1_KIDS_DUE v1_KIDS_DUE) (sq_cons (sqk_mk u2_KIDS_DUE v2_KIDS_DUE) (sq_cons (sqk_mk u3_KIDS_DUE v3_KIDS_DUE) (sq_cons (sqk_mk u4_KIDS_DUE v4_KIDS_DUE) (sq_cons (sqk_mk u5_KIDS_DUE v5_KIDS_DUE) (sq_cons (sqk_mk u6_KIDS_DUE v6_KIDS_DUE) (sq_cons (sqk_mk u7_KIDS_DUE v7_KIDS_DUE) (sq_cons (sqk_mk u8_KIDS_DUE v8_KIDS_DUE) (sq_cons (sqk_mk u9_KIDS_DUE v9_KIDS_DUE) (sq_cons (sqk_mk u10_KIDS_DUE v10_KIDS_DUE) (sq_cons (sqk_mk u11_KIDS_DUE v11_KIDS_DUE) (sq_cons (sqk_mk u12_KIDS_DUE v12_KIDS_DUE) (sq_cons (sqk_mk u13_KIDS_DUE v13_KIDS_DUE) (sq_cons (sqk_mk u14_KIDS_DUE v14_KIDS_DUE) (sq_cons (sqk_mk u15_KIDS_DUE v15_KIDS_DUE) (sq_cons (sqk_mk u16_KIDS_DUE v16_KIDS_DUE) (sq_cons (sqk_mk u17_KIDS_DUE v17_KIDS_DUE) sq_nil))))))))))))))))))⟩,tabi_mk sy_BINDER_OVER lk_BINDER_OVER vs_BINDER_OVER,⟨b0_RULES,b1_RULES,b2_RULES,b3_RULES,b4_RULES,b0_0_RULES,b1_0_RULES,b1_1_RULES,b2_0_RULES,b3_0_RULES,b4_0_RULES,tabr_mk ["app", "rec", "carry", "first", "second"] [b0_RULES,b1_RULES,b2_RULES,b3_RULES,b4_RULES] sy_RULES lk_RULES ks_RULES rf_RULES,sqr_mk [b0_0_RULES] u0_RULES v0_RULES (by simp),sqk_mk u0_0_RULES v0_0_RULES,sqr_mk [b1_0_RULES,b1_1_RULES] u1_RULES v1_RULES (by simp),sqk_mk u1_0_RULES v1_0_RULES,sqk_mk u1_1_RULES v1_1_RULES,sqr_mk [b2_0_RULES] u2_RULES v2_RULES (by simp),sqk_mk u2_0_RULES v2_0_RULES,sqr_mk [b3_0_RULES] u3_RULES v3_RULES (by simp),sqk_mk u3_0_RULES v3_0_RULES,sqr_mk [b4_0_RULES] u4_RULES v4_RULES (by simp),sqk_mk u4_0_RULES v4_0_RULES⟩,⟨⟨_,_,_,PySem.F.excBase_ValueError,x_gr⟩,⟨_,_,_,PySem.F.excBase_ValueError,x_dr⟩,⟨_,_,_,PySem.F.excBase_ValueError,x_ns⟩,⟨_,_,_,PySem.F.excBase_ValueError,x_np⟩,x_s1,x_s2⟩⟩⟩
theorem fin {l:PySem.W.OpenLaw} {w:World} {K:PySem.W.Frag} {mg:Str→Option Value} {t:Adr} {fa c1 T1 c2 T2:Addr} {h:Heap} (KX:K.In h) (G:h.Ns mainGlobals mg) (h1:PySem.W.tabIn K "raised" = some (c1,T1)) (h2:PySem.W.codeHdIn K c1 T1=true) (h3:PySem.W.tabIn K "put_in" = some (c2,T2)) (h4:PySem.W.codeHdIn K c2 T2=true) (T:Txt K mg t) (hfa:mg "law" = some (.ref fa)) :
    ∃ fd:FuncData,(∀ (s:Shared) (v:Value),BindsTo s fd ⟨[v],[]⟩ [("_law_script",v)])∧∀ base:Heap,FnOk l.prog w K mg base CX0 228 fa fd ["_law_script"] (spLaw K T1 T2):=by
  obtain ⟨f,fd,F,m,b⟩:=T.D_law
  have e:=hfa.symm.trans m
  cases e
  refine ⟨fd,?_,fun base=>?_⟩
  · obtain ⟨oc,od,kV,doc,pm,an,cdv,ct,osl,rfl,lk,hcd⟩:=F.ex
    exact fun s v=>.of_eq rfl
  obtain ⟨as,TK⟩:=T.T_KIDS_DUE
  have k1:=c_law_kids (P:=l.prog) (w:=w) T.D_law_kids T.M
  have k2:=c_law_ovr (P:=l.prog) (w:=w) T.D_law_over T.M
  have k3:=c_law_moved T.D_law_moved T.M k1 k2 58
  have k4:=c_law_put T.D_law_put T.M k1 k2 k3 58
  have k5:=c_law_measured T.D_law_measured T.M k1 93
  have k6:=c_law_great (n:=93) T.D_law_great T.M k5
  have k7:=c_law_draw (P:=l.prog) (w:=w) T.D_law_draw T.M
  have k8:=c_law_round (P:=l.prog) (w:=w) T.D_law_round T.M
  have k9:=c_law_deep T.D_law_deep T.M k7 k8 k6
  have p1:=c_is_number (P:=l.prog) (w:=w) T.D_is_number T.M
  have p2:=c_kids_of (P:=l.prog) (w:=w) T.D_kids_of T.M
  have p3:=c_binds_of (P:=l.prog) (w:=w) T.D_binds_of T.M TK T.T_BINDER_OVER
  have p4:=c_kid_at T.D_kid_at T.M T.X.np p2 p1
  have p5:=c_at_place T.D_at_place T.M p4
  have y3:=c_top_variable T.D_top_variable T.M p2 100
  have y4:=c_is_vast (P:=l.prog) (w:=w) T.D_is_vast T.M
  have y5:=c_bounded T.D_bounded T.M T.X.gr y4 y3
  have y6:=c_rebuilt (P:=l.prog) (w:=w) T.D_rebuilt T.M
  have p6:=c_changed_at T.D_changed_at T.M p4 p2 y6 100
  have p7:=c_with_at (n:=100) T.D_with_at T.M (by decide) p6 y5
  have y7:=c_with_free (kc:=1) T.D_with_free T.M p2 p3 y6 58
  have y8:=c_raised (dfn_of T.D_raised KX G h1 h2) T.M y7
  have y9:=c_with_free (kc:=64) T.D_with_free T.M p2 p3 y6 58
  have ya:=c_put_in (dfn_of T.D_put_in KX G h3 h4) T.M y8 y9 y5
  have s1:=c_rule_of (P:=l.prog) (w:=w) T.D_rule_of T.M T.T_RULES
  have s0:Cal l.prog w K mg CX0 "after_next" 1 ["thing"] (fun _ _ _ _=>False):=Cal.never T.D_after_next fun _ _ _ _ h=>h
  have s2:=c_after_rule T.D_after_rule T.M ya s0
  have s3:=c_stepped T.D_stepped T.M T.X.ns p5 s1 p7 s2
  have s4:=c_walked T.D_walked T.M T.X.ns p5 s1 s3
  have s5:=c_first_step T.D_first_step T.M s1 p2 60
  have s6:=c_normal T.D_normal T.M T.X.dr s5 s3
  have l1:=c_law_told T.D_law_told T.M T.X s3 s4
  have l2:=c_law_first T.D_law_first T.M T.X s6
  exact c_law F T.M k7 k9 k4 k6 l1 l2 s3
theorem walk {l:PySem.W.OpenLaw} {q:Program} {loose:List Str} {XP:(Str→Option Value)→Heap→Prop} {YP:World→Heap→Prop} {d:DefRec} {K:Params→PySem.W.Frag} {c1 T1 c2 T2:Addr} (hn:l.most=some 63) (hdf:d.params.defaults=[])
    (hY:∀ (w:World) (h:Heap),YP w h→(K w.params).In h)
    (h2:∀ w:World,PySem.W.codeHdIn (K w.params) c1 T1=true) (h3:∀ w:World,(K w.params).lookup T1=none) (h4:∀ (w:World) (h:Heap),YP w h→h.get? T1=some (PySem.W.tabObj #[]))
    (h5:∀ w:World,PySem.W.codeHdIn (K w.params) c2 T2=true) (h6:∀ w:World,(K w.params).lookup T2=none) (h7:∀ (w:World) (h:Heap),YP w h→h.get? T2=some (PySem.W.tabObj #[])) (hne:T1≠T2)
    (F:∀ (w:World) (mg:Str→Option Value) (fa:Addr) (h:Heap),(K w.params).In h→h.Ns mainGlobals mg→mg d.name=some (.ref fa) →
      ∃ fd:FuncData,(∀ (s:Shared) (u:Value),BindsTo s fd ⟨[u],[]⟩ [("_law_script",u)])∧∀ base:Heap,FnOk l.prog w (K w.params) mg base CX0 228 fa fd ["_law_script"] (spLaw (K w.params) T1 T2)) :
    PySem.W.WalkO q loose XP YP l.row.toRowW d [] (fun f vs=>PySem.call f vs):=by
  refine walk_ofT (ts:=[(c1,T1,.tab tabQ (rawInt tabP.line) (rawInt tabP.col)),(c2,T2,.tab tabQ2 (rawInt tabP2.line) (rawInt tabP2.col))]) (n:=63) (k:=228) (x := "_law_script") (sp:=fun w=>spLaw (K w.params) T1 T2) hn (by decide) hdf ⟨by decide,by decide,fun _=>rfl⟩ hY
    (fun w h Y=>⟨fun q hq=>?_,fun q hq=>?_,fun q hq=>?_,fun q hq=>?_⟩) F fun w H a ns hl hO hS=>⟨a,ns,rfl,hS,hl,⟨hO (c1,T1,.tab tabQ (rawInt tabP.line) (rawInt tabP.col)) (by simp) (by simp [List.lookup]),hO (c2,T2,.tab tabQ2 (rawInt tabP2.line) (rawInt tabP2.col)) (by simp) ?_⟩,fun _=>rfl⟩
  · rcases List.mem_cons.mp hq with rfl | hq
    · exact h4 w h Y
    · obtain rfl:=List.mem_singleton.mp hq
      exact h7 w h Y
  · rcases List.mem_cons.mp hq with rfl | hq
    · exact h2 w
    · obtain rfl:=List.mem_singleton.mp hq
      exact h5 w
  · rcases List.mem_cons.mp hq with rfl | hq
    · exact h3 w
    · obtain rfl:=List.mem_singleton.mp hq
      exact h6 w
  · rcases List.mem_cons.mp hq with rfl | hq
    · exact ⟨_,_,_,rfl⟩
    · obtain rfl:=List.mem_singleton.mp hq
      exact ⟨_,_,_,rfl⟩
  · have:(T2==T1)=false:=by simpa using fun z:T2=T1=>hne z.symm
    simp [List.lookup,this]
end K27
end
section
namespace HD
open PySem PySem.W PySem.Calls PyProof.Rows
def halves {α:Type}:List α→List α×List α
  | []=>([],[])
  | x::r=>(x::(halves r).2,(halves r).1)
def mkTF:Nat→List Obj→BT
  | 0,_=>.nil
  | _+1,[]=>.nil
  | n+1,x::r=>.node x (mkTF n (halves r).1) (mkTF n (halves r).2)
def mkT (l:List Obj):BT:=mkTF 14 l
def i (n:Nat):Value:=.int (.ofNat n) 0
def view (p:Program) (l:List Stmt):Program:={ p with main:={ p.main with body:=l } }
abbrev Two (β:Type):Type:=World→(OsState→β)×(OsState→β)
def Ok {β:Type} (q:Two β):Prop:=∀ w,(q w).1=(q w).2
theorem by1 {β:Type} {q q':Two β} (e:q=q') (h:∀ w,(q' w).1=(q' w).2):Ok q:=by
  subst e
  exact h
theorem by2 {β:Type} {q qf qt:Two β} (r:String) (ef:(fun w=>q (w.withFollow r false))=qf) (et:(fun w=>q (w.withFollow r true))=qt) (hf:∀ w,(qf w).1=(qf w).2) (ht:∀ w,(qt w).1=(qt w).2):Ok q:=by
  subst ef et
  exact fun w=>byRow2 r (P:=fun w=>(q w).1=(q w).2) hf ht w
section
variable (p:Program) (m:Nat) (ann:Option Value)
def pre (n:Nat) (S S':World→OsState→Shared) (t t':Thread):Two (Option (Shared×Thread)):=fun w=>(fun os=>topGo treeTable p w m ann n (S w os) t,fun os=>some (S' w os,t'))
def blk (n:Nat) (S:World→OsState→Shared) (S':World→OsState→SharedT) (b:List Stmt) (env:Env) (c:Code) (p1 p2:Pos) (B:List Frame):Two (Option (Flow×Shared×Code×Pos)) :=
  fun w=>(fun os=>segRun treeTable p w m ann 1 n (S w os) (blockOf b env c p1 B),fun os=>some (Flow.next,(S' w os).abs,c,p2))
def seg (n:Nat) (S S':World→OsState→SharedT) (l:List Stmt) (env:Env) (c:Code) (p1 p2:Pos) (B:List Frame):Two (Option (Flow×SharedT×Code×Pos)) :=
  fun w=>(fun os=>segRunT treeTable p w m ann 1 n (S w os) (piecesOf l env c p1 B),fun os=>some (Flow.next,S' w os,c,p2))
def fin (n:Nat) (S:World→OsState→SharedT) (S':World→OsState→Shared) (t:Thread):Two (Option Shared):=fun w=>(fun os=>topRun treeTable p w m ann n (S w os).abs t,fun os=>some (S' w os))
variable {p:Program} {m:Nat} {ann:Option Value}
def Goes (p:Program) (m:Nat) (ann:Option Value) (R:World→OsState→Shared) (n:Nat) (S:World→OsState→Shared) (t:Thread):Prop:=∀ w os,topRun treeTable p w m ann n (S w os) t=some (R w os)
def absS (S:World→OsState→SharedT):World→OsState→Shared:=fun w os=>(S w os).abs
theorem g_fin {n:Nat} {S:World→OsState→SharedT} {R:World→OsState→Shared} {env:Env} {c:Code} {pos q:Pos} (h:Ok (fin p m ann n S R ⟨doneF .next,c,pos,[topFrame q]⟩)) :
    Goes p m ann R n (absS S) (restOf [] env c pos [topFrame q]):=fun w os=>piece_nil (congrFun (h w) os)
theorem g_seg {n N:Nat} {S S':World→OsState→SharedT} {R:World→OsState→Shared} {l rest:List Stmt} {env:Env} {c:Code} {p1 p2 q:Pos} (h:Ok (seg p m ann n S S' l env c p1 p2 [topFrame q]))
    (k:Goes p m ann R N (absS S') (restOf rest env c p2 [topFrame q])):Goes p m ann R (n+N) (absS S) (restOf (l++rest) env c p1 [topFrame q]):=fun w os=>piece_app (segRun_of (congrFun (h w) os)) (k w os)
theorem g_blk {n N:Nat} {S:World→OsState→Shared} {S':World→OsState→SharedT} {R:World→OsState→Shared} {b b':List Stmt} {env:Env} {p1 p2 q:Pos} (e:b=b') (h:Ok (blk p m ann n S S' b env (.body b env) p1 p2 [topFrame q]))
    (k:Goes p m ann R N (absS S') (restOf b' env (.body b env) p2 [topFrame q])):Goes p m ann R (n+N) S ⟨denote treeTable (.body b env),.body b env,p1,[topFrame q]⟩:=fun w os=>by
  subst e
  exact piece_block (congrFun (h w) os) (k w os)
theorem g_pre {n N:Nat} {S S' R:World→OsState→Shared} {t t':Thread} (h:Ok (pre p m ann n S S' t t')) (k:Goes p m ann R N S' t'):Goes p m ann R (n+N) S t:=fun w os=>go_top (congrFun (h w) os) (k w os)
end
def sz (m:Nat) (ann:Option Value):Two (Bool×Nat×Option Value):=fun w=>(fun _=>((boot_heap w.params).isNs mainGlobals && (Array.mk []:Array GenState).size==0,(boot_heap w.params).objs.size,(boot_heap w.params).nsMap mainGlobals "__annotations__"),fun _=>(true,m,ann))
def mkS (H:Params→Heap) (d:Drawn) (k:Nat):World→OsState→Shared:=fun w os=>⟨H w.params,Array.mk [],d,k,os⟩
def la (p:Program) (H₁:Params→Heap) (d:Drawn) (k:Nat):Two Bool:=fun w=>(fun os=>(staticsOk (importedModules p.main.body) (boot_heap w.params) (H₁ w.params) && namesBound p (H₁ w.params) && gensDone ⟨H₁ w.params,Array.mk [],d,k,os⟩ && laidKept (boot_heap w.params) (H₁ w.params)),fun _=>true)
def lb (p q:Program) (loose:List Str) (Xt:Shared→Bool) (H₁:Params→Heap) (d:Drawn) (k:Nat):=fun (w:World)=>((fun (os:OsState)=>openSeen q loose (importedModules p.main.body) Xt true ⟨H₁ w.params,Array.mk [],d,k,os⟩),(fun (_:OsState)=>openGood q loose))
def lc (H:Hook) (H₁:Params→Heap) (d:Drawn) (k:Nat):Two H.α:=fun w=>(fun os=>H.obs ⟨H₁ w.params,Array.mk [],d,k,os⟩,fun _=>H.val w)
theorem left {p q:Program} {loose:List Str} {Xt:Shared→Bool} {H:Hook} {N m M:Nat} {ann:Option Value} {H₁:Params→Heap} {d:Drawn} {k:Nat} (e:opening p=plainProg p.main.scope.names) (hN:Nat.ble 600 N=true) (f:∀ s,fenceModules? p s=some s)
    (size:Ok (sz m ann)) (run:Goes p m ann (mkS H₁ d k) M (mkS boot_heap boot_drawn boot_toks) (topStub p)) (le:Nat.ble M N=true) (ha:Ok (la p H₁ d k)) (hb:Ok (lb p q loose Xt H₁ d k)) (hc:Ok (lc H H₁ d k)):LeftO p q loose Xt H.obs H.val N :=
  LeftO.of_pieces (H₀:=boot_heap) (H₁:=H₁) (boot_open e hN f) (fun w=>congrFun (size w) default) run le
    fun w=>funext fun os=>looks_pair (congrFun (ha w) os) (looks_pair (congrFun (hb w) os) (congrFun (hc w) os))
end HD
end
section
namespace K27
open PySem PySem.W PySem.Calls PyProof.Rows
abbrev pw:Program:=PySem.Challenge.pw_keeper_k27_deep_bodies
def ht (i:Nat):Stmt:=pw.main.body.getD i (.Pass ⟨0,0,0,0⟩)
def x0:Str:=.ofString "__name__"
def x1:Str:=.ofString "builtins"
def x2:Str:=.ofString "__doc__"
def x3:Str:=.ofString "__package__"
def x4:Str:=.ofString "__loader__"
def x5:Str:=.ofString "__spec__"
def x6:Str:=.ofString "__build_class__"
def x7:Str:=.ofString "__import__"
def x8:Str:=.ofString "abs"
def x9:Str:=.ofString "all"
def x13:Str:=.ofString "breakpoint"
def x14:Str:=.ofString "callable"
def x16:Str:=.ofString "compile"
def x38:Str:=.ofString "next"
def x160:Str:=.ofString "__main__"
def x161:Str:=.ofString "__annotations__"
def x162:Str:=.ofString "__builtins__"
def x163:Str:=.ofString "__file__"
def x164:Str:=.ofString "/claim/cut.py"
def x165:Str:=.ofString "__cached__"
def x166:Str:=.ofString "<module>"
def x167:Str:=.ofString "_wall"
def x168:Str:=.ofString "k"
def x169:Str:=.ofString "keeper.errors"
def x170:Str:=.ofString "KeeperError"
def x171:Str:=.ofString "__module__"
def x172:Str:=.ofString "__qualname__"
def x173:Str:=.ofString "__firstlineno__"
def x174:Str:=.ofString "small_name"
def x175:Str:=.ofString "__static_attributes__"
def x176:Str:=.ofString "self"
def x177:Str:=.ofString "KeeperError.small_name"
def x178:Str:=.ofString "__weakref__"
def x179:Str:=.ofString "Great"
def x180:Str:=.ofString "Great.small_name"
def x181:Str:=.ofString "NoPlace"
def x182:Str:=.ofString "NoPlace.small_name"
def x183:Str:=.ofString "NoStep"
def x184:Str:=.ofString "NoStep.small_name"
def x185:Str:=.ofString "Dry"
def x186:Str:=.ofString "Dry.small_name"
def x187:Str:=.ofString "keeper.things"
def x188:Str:=.ofString "MOST_KNOTS"
def x189:Str:=.ofString "MOST_DEEP"
def x190:Str:=.ofString "MOST_VARIABLE"
def x191:Str:=.ofString "KIDS_DUE"
def x192:Str:=.ofString "nat"
def x193:Str:=.ofString "none"
def x194:Str:=.ofString "some"
def x195:Str:=.ofString "same"
def x196:Str:=.ofString "var"
def x197:Str:=.ofString "fun"
def x198:Str:=.ofString "app"
def x199:Str:=.ofString "zero"
def x200:Str:=.ofString "rec"
def x201:Str:=.ofString "like"
def x202:Str:=.ofString "carry"
def x203:Str:=.ofString "never"
def x204:Str:=.ofString "pair"
def x205:Str:=.ofString "first"
def x206:Str:=.ofString "second"
def x207:Str:=.ofString "name"
def x208:Str:=.ofString "kind"
def x209:Str:=.ofString "term"
def x210:Str:=.ofString "BINDER_OVER"
def x211:Str:=.ofString "is_number"
def x212:Str:=.ofString "value"
def x213:Str:=.ofString "is_vast"
def x214:Str:=.ofString "kids_of"
def x215:Str:=.ofString "thing"
def x216:Str:=.ofString "binds_of"
def x217:Str:=.ofString "top_variable"
def x218:Str:=.ofString "bounded"
def x219:Str:=.ofString "rebuilt"
def x220:Str:=.ofString "kids"
def x221:Str:=.ofString "keeper.places"
def x222:Str:=.ofString "kid_at"
def x223:Str:=.ofString "number"
def x224:Str:=.ofString "at_place"
def x225:Str:=.ofString "place"
def x226:Str:=.ofString "here"
def x227:Str:=.ofString "changed_at"
def x228:Str:=.ofString "new"
def x229:Str:=.ofString "kid"
def x230:Str:=.ofString "with_at"
def x231:Str:=.ofString "keeper.putting"
def x232:Str:=.ofString "with_free"
def x233:Str:=.ofString "raised"
def x234:Str:=.ofString "by"
def x235:Str:=.ofString "low"
def x236:Str:=.ofString "change"
def x237:Str:=.ofString "put_in"
def x238:Str:=.ofString "other"
def x239:Str:=.ofString "at"
def x240:Str:=.ofString "keeper.steps"
def x241:Str:=.ofString "RULES"
def x242:Str:=.ofString "rule_of"
def x243:Str:=.ofString "book"
def x244:Str:=.ofString "part"
def x245:Str:=.ofString "word"
def x246:Str:=.ofString "rule"
def x247:Str:=.ofString "after_next"
def x248:Str:=.ofString "after_rule"
def x249:Str:=.ofString "stepped"
def x250:Str:=.ofString "first_step"
def x251:Str:=.ofString "step"
def x252:Str:=.ofString "keeper.normal"
def x253:Str:=.ofString "normal"
def x254:Str:=.ofString "fuel"
def x255:Str:=.ofString "log"
def x256:Str:=.ofString "walked"
def x257:Str:=.ofString "law_keeper_k27_deep_bodies"
def x258:Str:=.ofString "_law_draw"
def x259:Str:=.ofString "_law_script"
def x260:Str:=.ofString "_law_tape"
def x261:Str:=.ofString "_law_many"
def x262:Str:=.ofString "_law_seed"
def x263:Str:=.ofString "_law_cell"
def x264:Str:=.ofString "_law_kids"
def x265:Str:=.ofString "_law_thing"
def x266:Str:=.ofString "_law_measured"
def x267:Str:=.ofString "_law_knots"
def x268:Str:=.ofString "_law_deep_here"
def x269:Str:=.ofString "_law_most"
def x270:Str:=.ofString "_law_kid"
def x271:Str:=.ofString "_law_told_here"
def x272:Str:=.ofString "_law_great"
def x273:Str:=.ofString "_law_over"
def x274:Str:=.ofString "_law_number"
def x275:Str:=.ofString "_law_moved"
def x276:Str:=.ofString "_law_put"
def x277:Str:=.ofString "_law_round"
def x278:Str:=.ofString "_law_way"
def x279:Str:=.ofString "_law_kind"
def x280:Str:=.ofString "_law_deep"
def x281:Str:=.ofString "_law_told"
def x282:Str:=.ofString "_law_place"
def x283:Str:=.ofString "_law_first"
def x284:Str:=.ofString "law"
def x285:Str:=.ofString "_law_one"
def x286:Str:=.ofString "_law_due"
def x287:Str:=.ofString "_law_k"
def hE:Env:={ scope:=pw.main.scope,locals:=mainNs,globals:=mainNs,cells:=[],code:=(.ref 13),frame:=some (nat_lit 14) }
def hC:Code:=.body (behindTheImports pw) hE
def hB:List Frame:=[topFrame ⟨0,0,0,0⟩]
abbrev S0:World→OsState→Shared:=HD.mkS boot_heap boot_drawn boot_toks
def o11_a (P:Params):Obj:=⟨(.type "tuple"),none,(.seq #[] 0),#[]⟩
def o12_a (P:Params):Obj:=⟨.none,none,(.fields #[]),#[]⟩
def o13_a (P:Params):Obj:=⟨(.type "code"),none,(.fields #[(.str x166 182),(.str x166 183),(.str x164 184),(HD.i 1),(HD.i 0),(HD.i 0),(HD.i 0),(HD.i 0),(.ref 11),(.bool false),(HD.i 181),(.ref 12),.none,.none,.none,.none,(HD.i 185),(HD.i 1),(.str x164 186)]),#[]⟩
def o14_a (P:Params):Obj:=⟨(.type "frame"),none,.plain,#[(some (.ref 13)),(some (.ref 3)),(some (.ref 3)),none,(some (.str x160 164)),none,(some (.ref 0))]⟩
def Ha_0 (P:Params) (r:List (Obj)):List (Obj):=PySem.W.boot_o_0 P::PySem.W.boot_o_1 P::PySem.W.boot_o_2 P::PySem.W.boot_o_3 P::PySem.W.boot_o_4 P::PySem.W.boot_o_5 P::PySem.W.boot_o_6 P::PySem.W.boot_o_7 P::PySem.W.boot_o_8 P::PySem.W.boot_o_9 P::PySem.W.boot_o_10 P::o11_a P::r
def Ha_1 (P:Params) (r:List (Obj)):List (Obj):=o12_a P::o13_a P::o14_a P::r
def Ha (P:Params):Heap:=⟨Array.mk (Ha_0 P (Ha_1 P [])),⟨[],[],[],0,[],[],false,#[],[],0,false,false,false,(.ofNat 0),[(.ofNat 2000),(.ofNat 10),(.ofNat 10)],false,0,true,[],[],0,false⟩⟩
def da:Drawn:=⟨0,0,0,0⟩
def ka:Nat:=nat_lit 187
abbrev Sa:World→OsState→Shared:=HD.mkS Ha da ka
def qa (w:World):(OsState→Option (Shared×Thread))×(OsState→Option (Shared×Thread)):=(fun os=>topGo treeTable pw w (nat_lit 11) (some (.ref 6)) (nat_lit 12) (S0 w os) (topStub pw),fun os=>some (Sa w os,Thread.mk (denote treeTable hC) hC ⟨0,0,0,0⟩ hB))
theorem qa_eq:HD.pre pw (nat_lit 11) (some (.ref 6)) (nat_lit 12) S0 Sa (topStub pw) (Thread.mk (denote treeTable hC) hC ⟨0,0,0,0⟩ hB)=qa:=by kernel_rfl
name_quick YK27a for qa by qa_eq
theorem ia (w:World):(Fast.YK27a w).1=(Fast.YK27a w).2:=by kernel_rfl
theorem ha:HD.Ok (HD.pre pw (nat_lit 11) (some (.ref 6)) (nat_lit 12) S0 Sa (topStub pw) (Thread.mk (denote treeTable hC) hC ⟨0,0,0,0⟩ hB)):=HD.by1 Fast.YK27a_eq ia
def Tb_0 (P:Params) (r:List (Obj)):List (Obj):=PySem.W.boot_o_0 P::PySem.W.boot_o_1 P::PySem.W.boot_o_2 P::PySem.W.boot_o_3 P::PySem.W.boot_o_4 P::PySem.W.boot_o_5 P::PySem.W.boot_o_6 P::PySem.W.boot_o_7 P::PySem.W.boot_o_8 P::PySem.W.boot_o_9 P::PySem.W.boot_o_10 P::o11_a P::r
def Tb_1 (P:Params) (r:List (Obj)):List (Obj):=o12_a P::o13_a P::o14_a P::r
def Tb (P:Params):BT:=HD.mkT (Tb_0 P (Tb_1 P []))
def lfb:Life:=⟨[],[],[],0,[],[],false,#[],[],0,false,false,false,(.ofNat 0),[(.ofNat 2000),(.ofNat 10),(.ofNat 10)],false,0,true,[],[],0,false⟩
abbrev Sb (w:World) (os:OsState):SharedT:=⟨Tb w.params,nat_lit 15,lfb,Array.mk [],⟨0,0,0,0⟩,nat_lit 187,os⟩
def qb (w:World):(OsState→Option (Flow×Shared×Code×Pos))×(OsState→Option (Flow×Shared×Code×Pos)):=(fun os=>segRun treeTable pw w (nat_lit 11) (some (.ref 6)) (nat_lit 1) (nat_lit 1) (Sa w os) (blockOf (behindTheImports pw) hE hC ⟨0,0,0,0⟩ hB),fun os=>some (Flow.next,(Sb w os).abs,hC,⟨0,0,0,0⟩))
theorem qb_eq:HD.blk pw (nat_lit 11) (some (.ref 6)) (nat_lit 1) Sa Sb (behindTheImports pw) hE hC ⟨0,0,0,0⟩ ⟨0,0,0,0⟩ hB=qb:=by kernel_rfl
name_quick YK27b for qb by qb_eq
theorem ib (w:World):(Fast.YK27b w).1=(Fast.YK27b w).2:=by kernel_rfl
theorem hb:HD.Ok (HD.blk pw (nat_lit 11) (some (.ref 6)) (nat_lit 1) Sa Sb (behindTheImports pw) hE hC ⟨0,0,0,0⟩ ⟨0,0,0,0⟩ hB):=HD.by1 Fast.YK27b_eq ib
def o3_1 (P:Params):Obj:=⟨(.type "dict"),none,(.dict #[⟨(PyData.keyHash P x0),(.str x0 165),(.str x169 194)⟩,⟨(PyData.keyHash P x2),(.str x2 166),.none⟩,⟨(PyData.keyHash P x3),(.str x3 167),.none⟩,⟨(PyData.keyHash P x4),(.str x4 168),(.builtin "__main__.__loader__#opaque")⟩,⟨(PyData.keyHash P x5),(.str x5 169),.none⟩,⟨(PyData.keyHash P x161),(.str x161 170),(.ref 6)⟩,⟨(PyData.keyHash P x162),(.str x162 171),(.ref 4)⟩,⟨(PyData.keyHash P x163),(.str x163 173),(.str x164 172)⟩,⟨(PyData.keyHash P x165),(.str x165 174),.none⟩,⟨(PyData.keyHash P x167),(.str x167 193),(.ref 21)⟩,⟨(PyData.keyHash P x170),(.str x170 220),(.ref 38)⟩] 11),#[]⟩
def o12_1 (P:Params):Obj:=⟨.none,none,(.fields #[(HD.i 1),(HD.i 0),(.ref 20),(HD.i 5),(HD.i 0),(.ref 27)]),#[]⟩
def o15_1 (P:Params):Obj:=⟨(.type "tuple"),none,(.seq #[] 0),#[]⟩
def o16_1 (P:Params):Obj:=⟨.none,none,(.fields #[]),#[]⟩
def o17_1 (P:Params):Obj:=⟨(.type "tuple"),none,(.seq #[(.str x168 190)] 0),#[]⟩
def o18_1 (P:Params):Obj:=⟨(.type "tuple"),none,(.seq #[] 0),#[]⟩
def o19_1 (P:Params):Obj:=⟨.none,none,(.func ⟨x167,x167,L2.defArgs (ht 0),.stmts (L2.defBody (ht 0)),L2.defScope (ht 0),0,[],.none,.none,.none,.none,none,.none,.none,0⟩),#[]⟩
def o20_1 (P:Params):Obj:=⟨(.type "code"),none,(.fields #[(.str x167 187),(.str x167 188),(.str x164 189),(HD.i 1),(HD.i 1),(HD.i 0),(HD.i 0),(HD.i 3),(.ref 15),(.bool true),(HD.i 181),(.ref 16),.none,(.ref 17),(.ref 18),(.ref 19),(HD.i 191),(HD.i 1),(.str x164 192)]),#[]⟩
def o21_1 (P:Params):Obj:=⟨(.type "function"),none,(.func ⟨x167,x167,L2.defArgs (ht 0),.stmts (L2.defBody (ht 0)),L2.defScope (ht 0),3,[],.none,.none,.none,(.str x160 164),none,(.ref 20),.none,0⟩),#[]⟩
def o22_1 (P:Params):Obj:=⟨(.type "tuple"),none,(.seq #[(.type "ValueError")] 0),#[]⟩
def o23_1 (P:Params):Obj:=⟨(.type "builtin_function_or_method"),none,(.fields #[(.builtin "type.__prepare__"),(.type "type")]),#[]⟩
def o24_1 (P:Params):Obj:=⟨(.type "dict"),none,(.dict #[⟨(PyData.keyHash P x171),(.str x171 203),(.str x169 194)⟩,⟨(PyData.keyHash P x172),(.str x172 205),(.str x170 204)⟩,⟨(PyData.keyHash P x173),(.str x173 207),(.int (.ofNat 5) 206)⟩,⟨(PyData.keyHash P x174),(.str x174 214),(.ref 35)⟩,⟨(PyData.keyHash P x175),(.str x175 215),(.ref 36)⟩] 5),#[]⟩
def o25_1 (P:Params):Obj:=⟨(.type "tuple"),none,(.seq #[] 0),#[]⟩
def o26_1 (P:Params):Obj:=⟨.none,none,(.fields #[(HD.i 7),(HD.i 4),(.ref 34)]),#[]⟩
def o27_1 (P:Params):Obj:=⟨(.type "code"),none,(.fields #[(.str x170 198),(.str x170 199),(.str x164 200),(HD.i 5),(HD.i 0),(HD.i 0),(HD.i 0),(HD.i 0),(.ref 25),(.bool false),(HD.i 181),(.ref 26),.none,.none,.none,.none,(HD.i 201),(HD.i 5),(.str x164 202)]),#[]⟩
def o28_1 (P:Params):Obj:=⟨(.type "frame"),none,.plain,#[(some (.ref 27)),(some (.ref 3)),(some (.ref 24)),none,(some (.str x169 194)),none,(some (.ref 0))]⟩
def o29_1 (P:Params):Obj:=⟨(.type "tuple"),none,(.seq #[] 0),#[]⟩
def o30_1 (P:Params):Obj:=⟨.none,none,(.fields #[]),#[]⟩
def o31_1 (P:Params):Obj:=⟨(.type "tuple"),none,(.seq #[(.str x176 211)] 0),#[]⟩
def o32_1 (P:Params):Obj:=⟨(.type "tuple"),none,(.seq #[] 0),#[]⟩
def o33_1 (P:Params):Obj:=⟨.none,none,(.func ⟨x174,x177,L2.defArgs (L2.inClass (ht 2) 0),.stmts (L2.defBody (L2.inClass (ht 2) 0)),L2.defScope (L2.inClass (ht 2) 0),0,[],.none,.none,.none,.none,none,.none,.none,0⟩),#[]⟩
def o34_1 (P:Params):Obj:=⟨(.type "code"),none,(.fields #[(.str x174 208),(.str x177 209),(.str x164 210),(HD.i 7),(HD.i 1),(HD.i 0),(HD.i 0),(HD.i 3),(.ref 29),(.bool true),(HD.i 181),(.ref 30),.none,(.ref 31),(.ref 32),(.ref 33),(HD.i 212),(HD.i 7),(.str x164 213)]),#[]⟩
def o35_1 (P:Params):Obj:=⟨(.type "function"),none,(.func ⟨x174,x177,L2.defArgs (L2.inClass (ht 2) 0),.stmts (L2.defBody (L2.inClass (ht 2) 0)),L2.defScope (L2.inClass (ht 2) 0),3,[],.none,.none,.none,(.str x169 194),none,(.ref 34),.none,0⟩),#[]⟩
def o36_1 (P:Params):Obj:=⟨(.type "tuple"),none,(.seq #[] 0),#[]⟩
def o37_1 (P:Params):Obj:=⟨(.type "dict"),none,(.dict #[⟨(PyData.keyHash P x171),(.str x171 203),(.str x169 194)⟩,⟨(PyData.keyHash P x173),(.str x173 207),(.int (.ofNat 5) 206)⟩,⟨(PyData.keyHash P x174),(.str x174 214),(.ref 35)⟩,⟨(PyData.keyHash P x175),(.str x175 215),(.ref 36)⟩,⟨(PyData.keyHash P x178),(.str x178 217),(.ref 39)⟩,⟨(PyData.keyHash P x2),(.str x2 218),.none⟩] 3),#[]⟩
def o38_1 (P:Params):Obj:=⟨(.type "type"),none,(.cls ⟨x170,[(.type "ValueError")],[(.ref 38),(.type "ValueError"),(.type "Exception"),(.type "BaseException"),(.type "object")],37,x170,true,[],[],false,none,false⟩),#[(some (.ref 22)),none,(some (.str x170 196)),(some (.str x170 204)),(some (.builtin "ValueError.__new__")),(some (.bool true))]⟩
def o39_1 (P:Params):Obj:=⟨(.type "getset_descriptor"),none,(.fields #[(.str x178 216),(.ref 38),(.builtin "ExceptionGroup.__weakref__"),.none]),#[]⟩
def o40_1 (P:Params):Obj:=⟨(.type "super"),none,(.fields #[(.ref 38),(.ref 38),(.ref 38)]),#[]⟩
def o41_1 (P:Params):Obj:=⟨(.type "builtin_function_or_method"),none,(.fields #[(.builtin "object.__init_subclass__"),(.ref 38)]),#[]⟩
def g1:List Stmt:=[ht 0,ht 1,ht 2]
def T1 (P:Params):BT:=((((((((((((((((((((((((((((((Tb P).ins (nat_lit 3) (o3_1 P)).ins (nat_lit 12) (o12_1 P)).ins (nat_lit 15) (o15_1 P)).ins (nat_lit 16) (o16_1 P)).ins (nat_lit 17) (o17_1 P)).ins (nat_lit 18) (o18_1 P)).ins (nat_lit 19) (o19_1 P)).ins (nat_lit 20) (o20_1 P)).ins (nat_lit 21) (o21_1 P)).ins (nat_lit 22) (o22_1 P)).ins (nat_lit 23) (o23_1 P)).ins (nat_lit 24) (o24_1 P)).ins (nat_lit 25) (o25_1 P)).ins (nat_lit 26) (o26_1 P)).ins (nat_lit 27) (o27_1 P)).ins (nat_lit 28) (o28_1 P)).ins (nat_lit 29) (o29_1 P)).ins (nat_lit 30) (o30_1 P)).ins (nat_lit 31) (o31_1 P)).ins (nat_lit 32) (o32_1 P)).ins (nat_lit 33) (o33_1 P)).ins (nat_lit 34) (o34_1 P)).ins (nat_lit 35) (o35_1 P)).ins (nat_lit 36) (o36_1 P)).ins (nat_lit 37) (o37_1 P)).ins (nat_lit 38) (o38_1 P)).ins (nat_lit 39) (o39_1 P)).ins (nat_lit 40) (o40_1 P)).ins (nat_lit 41) (o41_1 P))
def lf1:Life:=⟨[],[],[],0,[],[],false,#[],[],0,false,false,false,(.ofNat 0),[(.ofNat 2000),(.ofNat 10),(.ofNat 10)],false,0,true,[],[],0,false⟩
abbrev S1 (w:World) (os:OsState):SharedT:=⟨T1 w.params,nat_lit 42,lf1,Array.mk [],⟨0,0,0,0⟩,nat_lit 221,os⟩
def q1 (w:World):(OsState→Option (Flow×SharedT×Code×Pos))×(OsState→Option (Flow×SharedT×Code×Pos)):=(fun os=>segRunT treeTable pw w (nat_lit 11) (some (.ref 6)) (nat_lit 1) (nat_lit 255) (Sb w os) (piecesOf g1 hE hC ⟨0,0,0,0⟩ hB),fun os=>some (Flow.next,S1 w os,hC,⟨5,0,8,16⟩))
theorem q1_eq:HD.seg pw (nat_lit 11) (some (.ref 6)) (nat_lit 255) Sb S1 g1 hE hC ⟨0,0,0,0⟩ ⟨5,0,8,16⟩ hB=q1:=by kernel_rfl
name_quick YK271 for q1 by q1_eq
theorem i1 (w:World):(Fast.YK271 w).1=(Fast.YK271 w).2:=by kernel_rfl
theorem h1:HD.Ok (HD.seg pw (nat_lit 11) (some (.ref 6)) (nat_lit 255) Sb S1 g1 hE hC ⟨0,0,0,0⟩ ⟨5,0,8,16⟩ hB):=HD.by1 Fast.YK271_eq i1
def o3_2 (P:Params):Obj:=⟨(.type "dict"),none,(.dict #[⟨(PyData.keyHash P x0),(.str x0 165),(.str x169 194)⟩,⟨(PyData.keyHash P x2),(.str x2 166),.none⟩,⟨(PyData.keyHash P x3),(.str x3 167),.none⟩,⟨(PyData.keyHash P x4),(.str x4 168),(.builtin "__main__.__loader__#opaque")⟩,⟨(PyData.keyHash P x5),(.str x5 169),.none⟩,⟨(PyData.keyHash P x161),(.str x161 170),(.ref 6)⟩,⟨(PyData.keyHash P x162),(.str x162 171),(.ref 4)⟩,⟨(PyData.keyHash P x163),(.str x163 173),(.str x164 172)⟩,⟨(PyData.keyHash P x165),(.str x165 174),.none⟩,⟨(PyData.keyHash P x167),(.str x167 193),(.ref 21)⟩,⟨(PyData.keyHash P x170),(.str x170 220),(.ref 38)⟩,⟨(PyData.keyHash P x179),(.str x179 243),(.ref 58)⟩] 12),#[]⟩
def o12_2 (P:Params):Obj:=⟨.none,none,(.fields #[(HD.i 1),(HD.i 0),(.ref 20),(HD.i 5),(HD.i 0),(.ref 27),(HD.i 9),(HD.i 0),(.ref 47)]),#[]⟩
def o38_2 (P:Params):Obj:=⟨(.type "type"),none,(.cls ⟨x170,[(.type "ValueError")],[(.ref 38),(.type "ValueError"),(.type "Exception"),(.type "BaseException"),(.type "object")],37,x170,true,[],[(.ref 58)],false,none,false⟩),#[(some (.ref 22)),none,(some (.str x170 196)),(some (.str x170 204)),(some (.builtin "ValueError.__new__")),(some (.bool true))]⟩
def o42_2 (P:Params):Obj:=⟨(.type "tuple"),none,(.seq #[(.ref 38)] 0),#[]⟩
def o43_2 (P:Params):Obj:=⟨(.type "builtin_function_or_method"),none,(.fields #[(.builtin "type.__prepare__"),(.type "type")]),#[]⟩
def o44_2 (P:Params):Obj:=⟨(.type "dict"),none,(.dict #[⟨(PyData.keyHash P x171),(.str x171 228),(.str x169 194)⟩,⟨(PyData.keyHash P x172),(.str x172 230),(.str x179 229)⟩,⟨(PyData.keyHash P x173),(.str x173 232),(.int (.ofNat 9) 231)⟩,⟨(PyData.keyHash P x174),(.str x174 239),(.ref 55)⟩,⟨(PyData.keyHash P x175),(.str x175 240),(.ref 56)⟩] 5),#[]⟩
def o45_2 (P:Params):Obj:=⟨(.type "tuple"),none,(.seq #[] 0),#[]⟩
def o46_2 (P:Params):Obj:=⟨.none,none,(.fields #[(HD.i 11),(HD.i 4),(.ref 54)]),#[]⟩
def o47_2 (P:Params):Obj:=⟨(.type "code"),none,(.fields #[(.str x179 223),(.str x179 224),(.str x164 225),(HD.i 9),(HD.i 0),(HD.i 0),(HD.i 0),(HD.i 0),(.ref 45),(.bool false),(HD.i 181),(.ref 46),.none,.none,.none,.none,(HD.i 226),(HD.i 9),(.str x164 227)]),#[]⟩
def o48_2 (P:Params):Obj:=⟨(.type "frame"),none,.plain,#[(some (.ref 47)),(some (.ref 3)),(some (.ref 44)),none,(some (.str x169 194)),none,(some (.ref 0))]⟩
def o49_2 (P:Params):Obj:=⟨(.type "tuple"),none,(.seq #[] 0),#[]⟩
def o50_2 (P:Params):Obj:=⟨.none,none,(.fields #[]),#[]⟩
def o51_2 (P:Params):Obj:=⟨(.type "tuple"),none,(.seq #[(.str x176 236)] 0),#[]⟩
def o52_2 (P:Params):Obj:=⟨(.type "tuple"),none,(.seq #[] 0),#[]⟩
def o53_2 (P:Params):Obj:=⟨.none,none,(.func ⟨x174,x180,L2.defArgs (L2.inClass (ht 3) 0),.stmts (L2.defBody (L2.inClass (ht 3) 0)),L2.defScope (L2.inClass (ht 3) 0),0,[],.none,.none,.none,.none,none,.none,.none,0⟩),#[]⟩
def o54_2 (P:Params):Obj:=⟨(.type "code"),none,(.fields #[(.str x174 233),(.str x180 234),(.str x164 235),(HD.i 11),(HD.i 1),(HD.i 0),(HD.i 0),(HD.i 3),(.ref 49),(.bool true),(HD.i 181),(.ref 50),.none,(.ref 51),(.ref 52),(.ref 53),(HD.i 237),(HD.i 11),(.str x164 238)]),#[]⟩
def o55_2 (P:Params):Obj:=⟨(.type "function"),none,(.func ⟨x174,x180,L2.defArgs (L2.inClass (ht 3) 0),.stmts (L2.defBody (L2.inClass (ht 3) 0)),L2.defScope (L2.inClass (ht 3) 0),3,[],.none,.none,.none,(.str x169 194),none,(.ref 54),.none,0⟩),#[]⟩
def o56_2 (P:Params):Obj:=⟨(.type "tuple"),none,(.seq #[] 0),#[]⟩
def o57_2 (P:Params):Obj:=⟨(.type "dict"),none,(.dict #[⟨(PyData.keyHash P x171),(.str x171 228),(.str x169 194)⟩,⟨(PyData.keyHash P x173),(.str x173 232),(.int (.ofNat 9) 231)⟩,⟨(PyData.keyHash P x174),(.str x174 239),(.ref 55)⟩,⟨(PyData.keyHash P x175),(.str x175 240),(.ref 56)⟩,⟨(PyData.keyHash P x2),(.str x2 241),.none⟩] 2),#[]⟩
def o58_2 (P:Params):Obj:=⟨(.type "type"),none,(.cls ⟨x179,[(.ref 38)],[(.ref 58),(.ref 38),(.type "ValueError"),(.type "Exception"),(.type "BaseException"),(.type "object")],57,x179,true,[],[],false,none,false⟩),#[(some (.ref 42)),none,(some (.str x179 221)),(some (.str x179 229)),(some (.builtin "ValueError.__new__")),(some (.bool true))]⟩
def o59_2 (P:Params):Obj:=⟨(.type "super"),none,(.fields #[(.ref 58),(.ref 58),(.ref 58)]),#[]⟩
def o60_2 (P:Params):Obj:=⟨(.type "builtin_function_or_method"),none,(.fields #[(.builtin "object.__init_subclass__"),(.ref 58)]),#[]⟩
def g2:List Stmt:=[ht 3]
def T2 (P:Params):BT:=(((((((((((((((((((((((T1 P).ins (nat_lit 3) (o3_2 P)).ins (nat_lit 12) (o12_2 P)).ins (nat_lit 38) (o38_2 P)).ins (nat_lit 42) (o42_2 P)).ins (nat_lit 43) (o43_2 P)).ins (nat_lit 44) (o44_2 P)).ins (nat_lit 45) (o45_2 P)).ins (nat_lit 46) (o46_2 P)).ins (nat_lit 47) (o47_2 P)).ins (nat_lit 48) (o48_2 P)).ins (nat_lit 49) (o49_2 P)).ins (nat_lit 50) (o50_2 P)).ins (nat_lit 51) (o51_2 P)).ins (nat_lit 52) (o52_2 P)).ins (nat_lit 53) (o53_2 P)).ins (nat_lit 54) (o54_2 P)).ins (nat_lit 55) (o55_2 P)).ins (nat_lit 56) (o56_2 P)).ins (nat_lit 57) (o57_2 P)).ins (nat_lit 58) (o58_2 P)).ins (nat_lit 59) (o59_2 P)).ins (nat_lit 60) (o60_2 P))
def lf2:Life:=⟨[],[],[],0,[],[],false,#[],[],0,false,false,false,(.ofNat 0),[(.ofNat 2000),(.ofNat 10),(.ofNat 10)],false,0,true,[],[],0,false⟩
abbrev S2 (w:World) (os:OsState):SharedT:=⟨T2 w.params,nat_lit 61,lf2,Array.mk [],⟨0,0,0,0⟩,nat_lit 244,os⟩
def q2 (w:World):(OsState→Option (Flow×SharedT×Code×Pos))×(OsState→Option (Flow×SharedT×Code×Pos)):=(fun os=>segRunT treeTable pw w (nat_lit 11) (some (.ref 6)) (nat_lit 1) (nat_lit 244) (S1 w os) (piecesOf g2 hE hC ⟨5,0,8,16⟩ hB),fun os=>some (Flow.next,S2 w os,hC,⟨9,0,12,16⟩))
theorem q2_eq:HD.seg pw (nat_lit 11) (some (.ref 6)) (nat_lit 244) S1 S2 g2 hE hC ⟨5,0,8,16⟩ ⟨9,0,12,16⟩ hB=q2:=by kernel_rfl
name_quick YK272 for q2 by q2_eq
theorem i2 (w:World):(Fast.YK272 w).1=(Fast.YK272 w).2:=by kernel_rfl
theorem h2:HD.Ok (HD.seg pw (nat_lit 11) (some (.ref 6)) (nat_lit 244) S1 S2 g2 hE hC ⟨5,0,8,16⟩ ⟨9,0,12,16⟩ hB):=HD.by1 Fast.YK272_eq i2
def o3_3 (P:Params):Obj:=⟨(.type "dict"),none,(.dict #[⟨(PyData.keyHash P x0),(.str x0 165),(.str x169 194)⟩,⟨(PyData.keyHash P x2),(.str x2 166),.none⟩,⟨(PyData.keyHash P x3),(.str x3 167),.none⟩,⟨(PyData.keyHash P x4),(.str x4 168),(.builtin "__main__.__loader__#opaque")⟩,⟨(PyData.keyHash P x5),(.str x5 169),.none⟩,⟨(PyData.keyHash P x161),(.str x161 170),(.ref 6)⟩,⟨(PyData.keyHash P x162),(.str x162 171),(.ref 4)⟩,⟨(PyData.keyHash P x163),(.str x163 173),(.str x164 172)⟩,⟨(PyData.keyHash P x165),(.str x165 174),.none⟩,⟨(PyData.keyHash P x167),(.str x167 193),(.ref 21)⟩,⟨(PyData.keyHash P x170),(.str x170 220),(.ref 38)⟩,⟨(PyData.keyHash P x179),(.str x179 243),(.ref 58)⟩,⟨(PyData.keyHash P x181),(.str x181 266),(.ref 77)⟩] 13),#[]⟩
def o12_3 (P:Params):Obj:=⟨.none,none,(.fields #[(HD.i 1),(HD.i 0),(.ref 20),(HD.i 5),(HD.i 0),(.ref 27),(HD.i 9),(HD.i 0),(.ref 47),(HD.i 13),(HD.i 0),(.ref 66)]),#[]⟩
def o38_3 (P:Params):Obj:=⟨(.type "type"),none,(.cls ⟨x170,[(.type "ValueError")],[(.ref 38),(.type "ValueError"),(.type "Exception"),(.type "BaseException"),(.type "object")],37,x170,true,[],[(.ref 58),(.ref 77)],false,none,false⟩),#[(some (.ref 22)),none,(some (.str x170 196)),(some (.str x170 204)),(some (.builtin "ValueError.__new__")),(some (.bool true))]⟩
def o61_3 (P:Params):Obj:=⟨(.type "tuple"),none,(.seq #[(.ref 38)] 0),#[]⟩
def o62_3 (P:Params):Obj:=⟨(.type "builtin_function_or_method"),none,(.fields #[(.builtin "type.__prepare__"),(.type "type")]),#[]⟩
def o63_3 (P:Params):Obj:=⟨(.type "dict"),none,(.dict #[⟨(PyData.keyHash P x171),(.str x171 251),(.str x169 194)⟩,⟨(PyData.keyHash P x172),(.str x172 253),(.str x181 252)⟩,⟨(PyData.keyHash P x173),(.str x173 255),(.int (.ofNat 13) 254)⟩,⟨(PyData.keyHash P x174),(.str x174 262),(.ref 74)⟩,⟨(PyData.keyHash P x175),(.str x175 263),(.ref 75)⟩] 5),#[]⟩
def o64_3 (P:Params):Obj:=⟨(.type "tuple"),none,(.seq #[] 0),#[]⟩
def o65_3 (P:Params):Obj:=⟨.none,none,(.fields #[(HD.i 15),(HD.i 4),(.ref 73)]),#[]⟩
def o66_3 (P:Params):Obj:=⟨(.type "code"),none,(.fields #[(.str x181 246),(.str x181 247),(.str x164 248),(HD.i 13),(HD.i 0),(HD.i 0),(HD.i 0),(HD.i 0),(.ref 64),(.bool false),(HD.i 181),(.ref 65),.none,.none,.none,.none,(HD.i 249),(HD.i 13),(.str x164 250)]),#[]⟩
def o67_3 (P:Params):Obj:=⟨(.type "frame"),none,.plain,#[(some (.ref 66)),(some (.ref 3)),(some (.ref 63)),none,(some (.str x169 194)),none,(some (.ref 0))]⟩
def o68_3 (P:Params):Obj:=⟨(.type "tuple"),none,(.seq #[] 0),#[]⟩
def o69_3 (P:Params):Obj:=⟨.none,none,(.fields #[]),#[]⟩
def o70_3 (P:Params):Obj:=⟨(.type "tuple"),none,(.seq #[(.str x176 259)] 0),#[]⟩
def o71_3 (P:Params):Obj:=⟨(.type "tuple"),none,(.seq #[] 0),#[]⟩
def o72_3 (P:Params):Obj:=⟨.none,none,(.func ⟨x174,x182,L2.defArgs (L2.inClass (ht 4) 0),.stmts (L2.defBody (L2.inClass (ht 4) 0)),L2.defScope (L2.inClass (ht 4) 0),0,[],.none,.none,.none,.none,none,.none,.none,0⟩),#[]⟩
def o73_3 (P:Params):Obj:=⟨(.type "code"),none,(.fields #[(.str x174 256),(.str x182 257),(.str x164 258),(HD.i 15),(HD.i 1),(HD.i 0),(HD.i 0),(HD.i 3),(.ref 68),(.bool true),(HD.i 181),(.ref 69),.none,(.ref 70),(.ref 71),(.ref 72),(HD.i 260),(HD.i 15),(.str x164 261)]),#[]⟩
def o74_3 (P:Params):Obj:=⟨(.type "function"),none,(.func ⟨x174,x182,L2.defArgs (L2.inClass (ht 4) 0),.stmts (L2.defBody (L2.inClass (ht 4) 0)),L2.defScope (L2.inClass (ht 4) 0),3,[],.none,.none,.none,(.str x169 194),none,(.ref 73),.none,0⟩),#[]⟩
def o75_3 (P:Params):Obj:=⟨(.type "tuple"),none,(.seq #[] 0),#[]⟩
def o76_3 (P:Params):Obj:=⟨(.type "dict"),none,(.dict #[⟨(PyData.keyHash P x171),(.str x171 251),(.str x169 194)⟩,⟨(PyData.keyHash P x173),(.str x173 255),(.int (.ofNat 13) 254)⟩,⟨(PyData.keyHash P x174),(.str x174 262),(.ref 74)⟩,⟨(PyData.keyHash P x175),(.str x175 263),(.ref 75)⟩,⟨(PyData.keyHash P x2),(.str x2 264),.none⟩] 2),#[]⟩
def o77_3 (P:Params):Obj:=⟨(.type "type"),none,(.cls ⟨x181,[(.ref 38)],[(.ref 77),(.ref 38),(.type "ValueError"),(.type "Exception"),(.type "BaseException"),(.type "object")],76,x181,true,[],[],false,none,false⟩),#[(some (.ref 61)),none,(some (.str x181 244)),(some (.str x181 252)),(some (.builtin "ValueError.__new__")),(some (.bool true))]⟩
def o78_3 (P:Params):Obj:=⟨(.type "super"),none,(.fields #[(.ref 77),(.ref 77),(.ref 77)]),#[]⟩
def o79_3 (P:Params):Obj:=⟨(.type "builtin_function_or_method"),none,(.fields #[(.builtin "object.__init_subclass__"),(.ref 77)]),#[]⟩
def g3:List Stmt:=[ht 4]
def T3 (P:Params):BT:=(((((((((((((((((((((((T2 P).ins (nat_lit 3) (o3_3 P)).ins (nat_lit 12) (o12_3 P)).ins (nat_lit 38) (o38_3 P)).ins (nat_lit 61) (o61_3 P)).ins (nat_lit 62) (o62_3 P)).ins (nat_lit 63) (o63_3 P)).ins (nat_lit 64) (o64_3 P)).ins (nat_lit 65) (o65_3 P)).ins (nat_lit 66) (o66_3 P)).ins (nat_lit 67) (o67_3 P)).ins (nat_lit 68) (o68_3 P)).ins (nat_lit 69) (o69_3 P)).ins (nat_lit 70) (o70_3 P)).ins (nat_lit 71) (o71_3 P)).ins (nat_lit 72) (o72_3 P)).ins (nat_lit 73) (o73_3 P)).ins (nat_lit 74) (o74_3 P)).ins (nat_lit 75) (o75_3 P)).ins (nat_lit 76) (o76_3 P)).ins (nat_lit 77) (o77_3 P)).ins (nat_lit 78) (o78_3 P)).ins (nat_lit 79) (o79_3 P))
def lf3:Life:=⟨[],[],[],0,[],[],false,#[],[],0,false,false,false,(.ofNat 0),[(.ofNat 2000),(.ofNat 10),(.ofNat 10)],false,0,true,[],[],0,false⟩
abbrev S3 (w:World) (os:OsState):SharedT:=⟨T3 w.params,nat_lit 80,lf3,Array.mk [],⟨0,0,0,0⟩,nat_lit 267,os⟩
def q3 (w:World):(OsState→Option (Flow×SharedT×Code×Pos))×(OsState→Option (Flow×SharedT×Code×Pos)):=(fun os=>segRunT treeTable pw w (nat_lit 11) (some (.ref 6)) (nat_lit 1) (nat_lit 244) (S2 w os) (piecesOf g3 hE hC ⟨9,0,12,16⟩ hB),fun os=>some (Flow.next,S3 w os,hC,⟨13,0,16,16⟩))
theorem q3_eq:HD.seg pw (nat_lit 11) (some (.ref 6)) (nat_lit 244) S2 S3 g3 hE hC ⟨9,0,12,16⟩ ⟨13,0,16,16⟩ hB=q3:=by kernel_rfl
name_quick YK273 for q3 by q3_eq
theorem i3 (w:World):(Fast.YK273 w).1=(Fast.YK273 w).2:=by kernel_rfl
theorem h3:HD.Ok (HD.seg pw (nat_lit 11) (some (.ref 6)) (nat_lit 244) S2 S3 g3 hE hC ⟨9,0,12,16⟩ ⟨13,0,16,16⟩ hB):=HD.by1 Fast.YK273_eq i3
def o3_4 (P:Params):Obj:=⟨(.type "dict"),none,(.dict #[⟨(PyData.keyHash P x0),(.str x0 165),(.str x169 194)⟩,⟨(PyData.keyHash P x2),(.str x2 166),.none⟩,⟨(PyData.keyHash P x3),(.str x3 167),.none⟩,⟨(PyData.keyHash P x4),(.str x4 168),(.builtin "__main__.__loader__#opaque")⟩,⟨(PyData.keyHash P x5),(.str x5 169),.none⟩,⟨(PyData.keyHash P x161),(.str x161 170),(.ref 6)⟩,⟨(PyData.keyHash P x162),(.str x162 171),(.ref 4)⟩,⟨(PyData.keyHash P x163),(.str x163 173),(.str x164 172)⟩,⟨(PyData.keyHash P x165),(.str x165 174),.none⟩,⟨(PyData.keyHash P x167),(.str x167 193),(.ref 21)⟩,⟨(PyData.keyHash P x170),(.str x170 220),(.ref 38)⟩,⟨(PyData.keyHash P x179),(.str x179 243),(.ref 58)⟩,⟨(PyData.keyHash P x181),(.str x181 266),(.ref 77)⟩,⟨(PyData.keyHash P x183),(.str x183 289),(.ref 96)⟩] 14),#[]⟩
def o12_4 (P:Params):Obj:=⟨.none,none,(.fields #[(HD.i 1),(HD.i 0),(.ref 20),(HD.i 5),(HD.i 0),(.ref 27),(HD.i 9),(HD.i 0),(.ref 47),(HD.i 13),(HD.i 0),(.ref 66),(HD.i 17),(HD.i 0),(.ref 85)]),#[]⟩
def o38_4 (P:Params):Obj:=⟨(.type "type"),none,(.cls ⟨x170,[(.type "ValueError")],[(.ref 38),(.type "ValueError"),(.type "Exception"),(.type "BaseException"),(.type "object")],37,x170,true,[],[(.ref 58),(.ref 77),(.ref 96)],false,none,false⟩),#[(some (.ref 22)),none,(some (.str x170 196)),(some (.str x170 204)),(some (.builtin "ValueError.__new__")),(some (.bool true))]⟩
def o80_4 (P:Params):Obj:=⟨(.type "tuple"),none,(.seq #[(.ref 38)] 0),#[]⟩
def o81_4 (P:Params):Obj:=⟨(.type "builtin_function_or_method"),none,(.fields #[(.builtin "type.__prepare__"),(.type "type")]),#[]⟩
def o82_4 (P:Params):Obj:=⟨(.type "dict"),none,(.dict #[⟨(PyData.keyHash P x171),(.str x171 274),(.str x169 194)⟩,⟨(PyData.keyHash P x172),(.str x172 276),(.str x183 275)⟩,⟨(PyData.keyHash P x173),(.str x173 278),(.int (.ofNat 17) 277)⟩,⟨(PyData.keyHash P x174),(.str x174 285),(.ref 93)⟩,⟨(PyData.keyHash P x175),(.str x175 286),(.ref 94)⟩] 5),#[]⟩
def o83_4 (P:Params):Obj:=⟨(.type "tuple"),none,(.seq #[] 0),#[]⟩
def o84_4 (P:Params):Obj:=⟨.none,none,(.fields #[(HD.i 19),(HD.i 4),(.ref 92)]),#[]⟩
def o85_4 (P:Params):Obj:=⟨(.type "code"),none,(.fields #[(.str x183 269),(.str x183 270),(.str x164 271),(HD.i 17),(HD.i 0),(HD.i 0),(HD.i 0),(HD.i 0),(.ref 83),(.bool false),(HD.i 181),(.ref 84),.none,.none,.none,.none,(HD.i 272),(HD.i 17),(.str x164 273)]),#[]⟩
def o86_4 (P:Params):Obj:=⟨(.type "frame"),none,.plain,#[(some (.ref 85)),(some (.ref 3)),(some (.ref 82)),none,(some (.str x169 194)),none,(some (.ref 0))]⟩
def o87_4 (P:Params):Obj:=⟨(.type "tuple"),none,(.seq #[] 0),#[]⟩
def o88_4 (P:Params):Obj:=⟨.none,none,(.fields #[]),#[]⟩
def o89_4 (P:Params):Obj:=⟨(.type "tuple"),none,(.seq #[(.str x176 282)] 0),#[]⟩
def o90_4 (P:Params):Obj:=⟨(.type "tuple"),none,(.seq #[] 0),#[]⟩
def o91_4 (P:Params):Obj:=⟨.none,none,(.func ⟨x174,x184,L2.defArgs (L2.inClass (ht 5) 0),.stmts (L2.defBody (L2.inClass (ht 5) 0)),L2.defScope (L2.inClass (ht 5) 0),0,[],.none,.none,.none,.none,none,.none,.none,0⟩),#[]⟩
def o92_4 (P:Params):Obj:=⟨(.type "code"),none,(.fields #[(.str x174 279),(.str x184 280),(.str x164 281),(HD.i 19),(HD.i 1),(HD.i 0),(HD.i 0),(HD.i 3),(.ref 87),(.bool true),(HD.i 181),(.ref 88),.none,(.ref 89),(.ref 90),(.ref 91),(HD.i 283),(HD.i 19),(.str x164 284)]),#[]⟩
def o93_4 (P:Params):Obj:=⟨(.type "function"),none,(.func ⟨x174,x184,L2.defArgs (L2.inClass (ht 5) 0),.stmts (L2.defBody (L2.inClass (ht 5) 0)),L2.defScope (L2.inClass (ht 5) 0),3,[],.none,.none,.none,(.str x169 194),none,(.ref 92),.none,0⟩),#[]⟩
def o94_4 (P:Params):Obj:=⟨(.type "tuple"),none,(.seq #[] 0),#[]⟩
def o95_4 (P:Params):Obj:=⟨(.type "dict"),none,(.dict #[⟨(PyData.keyHash P x171),(.str x171 274),(.str x169 194)⟩,⟨(PyData.keyHash P x173),(.str x173 278),(.int (.ofNat 17) 277)⟩,⟨(PyData.keyHash P x174),(.str x174 285),(.ref 93)⟩,⟨(PyData.keyHash P x175),(.str x175 286),(.ref 94)⟩,⟨(PyData.keyHash P x2),(.str x2 287),.none⟩] 2),#[]⟩
def o96_4 (P:Params):Obj:=⟨(.type "type"),none,(.cls ⟨x183,[(.ref 38)],[(.ref 96),(.ref 38),(.type "ValueError"),(.type "Exception"),(.type "BaseException"),(.type "object")],95,x183,true,[],[],false,none,false⟩),#[(some (.ref 80)),none,(some (.str x183 267)),(some (.str x183 275)),(some (.builtin "ValueError.__new__")),(some (.bool true))]⟩
def o97_4 (P:Params):Obj:=⟨(.type "super"),none,(.fields #[(.ref 96),(.ref 96),(.ref 96)]),#[]⟩
def o98_4 (P:Params):Obj:=⟨(.type "builtin_function_or_method"),none,(.fields #[(.builtin "object.__init_subclass__"),(.ref 96)]),#[]⟩
def g4:List Stmt:=[ht 5]
def T4 (P:Params):BT:=(((((((((((((((((((((((T3 P).ins (nat_lit 3) (o3_4 P)).ins (nat_lit 12) (o12_4 P)).ins (nat_lit 38) (o38_4 P)).ins (nat_lit 80) (o80_4 P)).ins (nat_lit 81) (o81_4 P)).ins (nat_lit 82) (o82_4 P)).ins (nat_lit 83) (o83_4 P)).ins (nat_lit 84) (o84_4 P)).ins (nat_lit 85) (o85_4 P)).ins (nat_lit 86) (o86_4 P)).ins (nat_lit 87) (o87_4 P)).ins (nat_lit 88) (o88_4 P)).ins (nat_lit 89) (o89_4 P)).ins (nat_lit 90) (o90_4 P)).ins (nat_lit 91) (o91_4 P)).ins (nat_lit 92) (o92_4 P)).ins (nat_lit 93) (o93_4 P)).ins (nat_lit 94) (o94_4 P)).ins (nat_lit 95) (o95_4 P)).ins (nat_lit 96) (o96_4 P)).ins (nat_lit 97) (o97_4 P)).ins (nat_lit 98) (o98_4 P))
def lf4:Life:=⟨[],[],[],0,[],[],false,#[],[],0,false,false,false,(.ofNat 0),[(.ofNat 2000),(.ofNat 10),(.ofNat 10)],false,0,true,[],[],0,false⟩
abbrev S4 (w:World) (os:OsState):SharedT:=⟨T4 w.params,nat_lit 99,lf4,Array.mk [],⟨0,0,0,0⟩,nat_lit 290,os⟩
def q4 (w:World):(OsState→Option (Flow×SharedT×Code×Pos))×(OsState→Option (Flow×SharedT×Code×Pos)):=(fun os=>segRunT treeTable pw w (nat_lit 11) (some (.ref 6)) (nat_lit 1) (nat_lit 244) (S3 w os) (piecesOf g4 hE hC ⟨13,0,16,16⟩ hB),fun os=>some (Flow.next,S4 w os,hC,⟨17,0,20,16⟩))
theorem q4_eq:HD.seg pw (nat_lit 11) (some (.ref 6)) (nat_lit 244) S3 S4 g4 hE hC ⟨13,0,16,16⟩ ⟨17,0,20,16⟩ hB=q4:=by kernel_rfl
name_quick YK274 for q4 by q4_eq
theorem i4 (w:World):(Fast.YK274 w).1=(Fast.YK274 w).2:=by kernel_rfl
theorem h4:HD.Ok (HD.seg pw (nat_lit 11) (some (.ref 6)) (nat_lit 244) S3 S4 g4 hE hC ⟨13,0,16,16⟩ ⟨17,0,20,16⟩ hB):=HD.by1 Fast.YK274_eq i4
def o3_5 (P:Params):Obj:=⟨(.type "dict"),none,(.dict #[⟨(PyData.keyHash P x0),(.str x0 165),(.str x187 313)⟩,⟨(PyData.keyHash P x2),(.str x2 166),.none⟩,⟨(PyData.keyHash P x3),(.str x3 167),.none⟩,⟨(PyData.keyHash P x4),(.str x4 168),(.builtin "__main__.__loader__#opaque")⟩,⟨(PyData.keyHash P x5),(.str x5 169),.none⟩,⟨(PyData.keyHash P x161),(.str x161 170),(.ref 6)⟩,⟨(PyData.keyHash P x162),(.str x162 171),(.ref 4)⟩,⟨(PyData.keyHash P x163),(.str x163 173),(.str x164 172)⟩,⟨(PyData.keyHash P x165),(.str x165 174),.none⟩,⟨(PyData.keyHash P x167),(.str x167 193),(.ref 21)⟩,⟨(PyData.keyHash P x170),(.str x170 220),(.ref 38)⟩,⟨(PyData.keyHash P x179),(.str x179 243),(.ref 58)⟩,⟨(PyData.keyHash P x181),(.str x181 266),(.ref 77)⟩,⟨(PyData.keyHash P x183),(.str x183 289),(.ref 96)⟩,⟨(PyData.keyHash P x185),(.str x185 312),(.ref 115)⟩,⟨(PyData.keyHash P x188),(.str x188 316),(.int (.ofNat 600) 315)⟩,⟨(PyData.keyHash P x189),(.str x189 318),(.int (.ofNat 40) 317)⟩,⟨(PyData.keyHash P x190),(.str x190 320),(.int (.ofNat 99) 319)⟩] 18),#[]⟩
def o12_5 (P:Params):Obj:=⟨.none,none,(.fields #[(HD.i 1),(HD.i 0),(.ref 20),(HD.i 5),(HD.i 0),(.ref 27),(HD.i 9),(HD.i 0),(.ref 47),(HD.i 13),(HD.i 0),(.ref 66),(HD.i 17),(HD.i 0),(.ref 85),(HD.i 21),(HD.i 0),(.ref 104)]),#[]⟩
def o38_5 (P:Params):Obj:=⟨(.type "type"),none,(.cls ⟨x170,[(.type "ValueError")],[(.ref 38),(.type "ValueError"),(.type "Exception"),(.type "BaseException"),(.type "object")],37,x170,true,[],[(.ref 58),(.ref 77),(.ref 96),(.ref 115)],false,none,false⟩),#[(some (.ref 22)),none,(some (.str x170 196)),(some (.str x170 204)),(some (.builtin "ValueError.__new__")),(some (.bool true))]⟩
def o99_5 (P:Params):Obj:=⟨(.type "tuple"),none,(.seq #[(.ref 38)] 0),#[]⟩
def o100_5 (P:Params):Obj:=⟨(.type "builtin_function_or_method"),none,(.fields #[(.builtin "type.__prepare__"),(.type "type")]),#[]⟩
def o101_5 (P:Params):Obj:=⟨(.type "dict"),none,(.dict #[⟨(PyData.keyHash P x171),(.str x171 297),(.str x169 194)⟩,⟨(PyData.keyHash P x172),(.str x172 299),(.str x185 298)⟩,⟨(PyData.keyHash P x173),(.str x173 301),(.int (.ofNat 21) 300)⟩,⟨(PyData.keyHash P x174),(.str x174 308),(.ref 112)⟩,⟨(PyData.keyHash P x175),(.str x175 309),(.ref 113)⟩] 5),#[]⟩
def o102_5 (P:Params):Obj:=⟨(.type "tuple"),none,(.seq #[] 0),#[]⟩
def o103_5 (P:Params):Obj:=⟨.none,none,(.fields #[(HD.i 23),(HD.i 4),(.ref 111)]),#[]⟩
def o104_5 (P:Params):Obj:=⟨(.type "code"),none,(.fields #[(.str x185 292),(.str x185 293),(.str x164 294),(HD.i 21),(HD.i 0),(HD.i 0),(HD.i 0),(HD.i 0),(.ref 102),(.bool false),(HD.i 181),(.ref 103),.none,.none,.none,.none,(HD.i 295),(HD.i 21),(.str x164 296)]),#[]⟩
def o105_5 (P:Params):Obj:=⟨(.type "frame"),none,.plain,#[(some (.ref 104)),(some (.ref 3)),(some (.ref 101)),none,(some (.str x169 194)),none,(some (.ref 0))]⟩
def o106_5 (P:Params):Obj:=⟨(.type "tuple"),none,(.seq #[] 0),#[]⟩
def o107_5 (P:Params):Obj:=⟨.none,none,(.fields #[]),#[]⟩
def o108_5 (P:Params):Obj:=⟨(.type "tuple"),none,(.seq #[(.str x176 305)] 0),#[]⟩
def o109_5 (P:Params):Obj:=⟨(.type "tuple"),none,(.seq #[] 0),#[]⟩
def o110_5 (P:Params):Obj:=⟨.none,none,(.func ⟨x174,x186,L2.defArgs (L2.inClass (ht 6) 0),.stmts (L2.defBody (L2.inClass (ht 6) 0)),L2.defScope (L2.inClass (ht 6) 0),0,[],.none,.none,.none,.none,none,.none,.none,0⟩),#[]⟩
def o111_5 (P:Params):Obj:=⟨(.type "code"),none,(.fields #[(.str x174 302),(.str x186 303),(.str x164 304),(HD.i 23),(HD.i 1),(HD.i 0),(HD.i 0),(HD.i 3),(.ref 106),(.bool true),(HD.i 181),(.ref 107),.none,(.ref 108),(.ref 109),(.ref 110),(HD.i 306),(HD.i 23),(.str x164 307)]),#[]⟩
def o112_5 (P:Params):Obj:=⟨(.type "function"),none,(.func ⟨x174,x186,L2.defArgs (L2.inClass (ht 6) 0),.stmts (L2.defBody (L2.inClass (ht 6) 0)),L2.defScope (L2.inClass (ht 6) 0),3,[],.none,.none,.none,(.str x169 194),none,(.ref 111),.none,0⟩),#[]⟩
def o113_5 (P:Params):Obj:=⟨(.type "tuple"),none,(.seq #[] 0),#[]⟩
def o114_5 (P:Params):Obj:=⟨(.type "dict"),none,(.dict #[⟨(PyData.keyHash P x171),(.str x171 297),(.str x169 194)⟩,⟨(PyData.keyHash P x173),(.str x173 301),(.int (.ofNat 21) 300)⟩,⟨(PyData.keyHash P x174),(.str x174 308),(.ref 112)⟩,⟨(PyData.keyHash P x175),(.str x175 309),(.ref 113)⟩,⟨(PyData.keyHash P x2),(.str x2 310),.none⟩] 2),#[]⟩
def o115_5 (P:Params):Obj:=⟨(.type "type"),none,(.cls ⟨x185,[(.ref 38)],[(.ref 115),(.ref 38),(.type "ValueError"),(.type "Exception"),(.type "BaseException"),(.type "object")],114,x185,true,[],[],false,none,false⟩),#[(some (.ref 99)),none,(some (.str x185 290)),(some (.str x185 298)),(some (.builtin "ValueError.__new__")),(some (.bool true))]⟩
def o116_5 (P:Params):Obj:=⟨(.type "super"),none,(.fields #[(.ref 115),(.ref 115),(.ref 115)]),#[]⟩
def o117_5 (P:Params):Obj:=⟨(.type "builtin_function_or_method"),none,(.fields #[(.builtin "object.__init_subclass__"),(.ref 115)]),#[]⟩
def g5:List Stmt:=[ht 6,ht 7,ht 8,ht 9,ht 10]
def T5 (P:Params):BT:=(((((((((((((((((((((((T4 P).ins (nat_lit 3) (o3_5 P)).ins (nat_lit 12) (o12_5 P)).ins (nat_lit 38) (o38_5 P)).ins (nat_lit 99) (o99_5 P)).ins (nat_lit 100) (o100_5 P)).ins (nat_lit 101) (o101_5 P)).ins (nat_lit 102) (o102_5 P)).ins (nat_lit 103) (o103_5 P)).ins (nat_lit 104) (o104_5 P)).ins (nat_lit 105) (o105_5 P)).ins (nat_lit 106) (o106_5 P)).ins (nat_lit 107) (o107_5 P)).ins (nat_lit 108) (o108_5 P)).ins (nat_lit 109) (o109_5 P)).ins (nat_lit 110) (o110_5 P)).ins (nat_lit 111) (o111_5 P)).ins (nat_lit 112) (o112_5 P)).ins (nat_lit 113) (o113_5 P)).ins (nat_lit 114) (o114_5 P)).ins (nat_lit 115) (o115_5 P)).ins (nat_lit 116) (o116_5 P)).ins (nat_lit 117) (o117_5 P))
def lf5:Life:=⟨[],[],[],0,[],[],false,#[],[],0,false,false,false,(.ofNat 0),[(.ofNat 2000),(.ofNat 10),(.ofNat 10)],false,0,true,[],[],0,false⟩
abbrev S5 (w:World) (os:OsState):SharedT:=⟨T5 w.params,nat_lit 118,lf5,Array.mk [],⟨0,0,0,0⟩,nat_lit 321,os⟩
def q5 (w:World):(OsState→Option (Flow×SharedT×Code×Pos))×(OsState→Option (Flow×SharedT×Code×Pos)):=(fun os=>segRunT treeTable pw w (nat_lit 11) (some (.ref 6)) (nat_lit 1) (nat_lit 280) (S4 w os) (piecesOf g5 hE hC ⟨17,0,20,16⟩ hB),fun os=>some (Flow.next,S5 w os,hC,⟨28,0,28,13⟩))
theorem q5_eq:HD.seg pw (nat_lit 11) (some (.ref 6)) (nat_lit 280) S4 S5 g5 hE hC ⟨17,0,20,16⟩ ⟨28,0,28,13⟩ hB=q5:=by kernel_rfl
name_quick YK275 for q5 by q5_eq
theorem i5 (w:World):(Fast.YK275 w).1=(Fast.YK275 w).2:=by kernel_rfl
theorem h5:HD.Ok (HD.seg pw (nat_lit 11) (some (.ref 6)) (nat_lit 280) S4 S5 g5 hE hC ⟨17,0,20,16⟩ ⟨28,0,28,13⟩ hB):=HD.by1 Fast.YK275_eq i5
def o3_6 (P:Params):Obj:=⟨(.type "dict"),none,(.dict #[⟨(PyData.keyHash P x0),(.str x0 165),(.str x187 313)⟩,⟨(PyData.keyHash P x2),(.str x2 166),.none⟩,⟨(PyData.keyHash P x3),(.str x3 167),.none⟩,⟨(PyData.keyHash P x4),(.str x4 168),(.builtin "__main__.__loader__#opaque")⟩,⟨(PyData.keyHash P x5),(.str x5 169),.none⟩,⟨(PyData.keyHash P x161),(.str x161 170),(.ref 6)⟩,⟨(PyData.keyHash P x162),(.str x162 171),(.ref 4)⟩,⟨(PyData.keyHash P x163),(.str x163 173),(.str x164 172)⟩,⟨(PyData.keyHash P x165),(.str x165 174),.none⟩,⟨(PyData.keyHash P x167),(.str x167 193),(.ref 21)⟩,⟨(PyData.keyHash P x170),(.str x170 220),(.ref 38)⟩,⟨(PyData.keyHash P x179),(.str x179 243),(.ref 58)⟩,⟨(PyData.keyHash P x181),(.str x181 266),(.ref 77)⟩,⟨(PyData.keyHash P x183),(.str x183 289),(.ref 96)⟩,⟨(PyData.keyHash P x185),(.str x185 312),(.ref 115)⟩,⟨(PyData.keyHash P x188),(.str x188 316),(.int (.ofNat 600) 315)⟩,⟨(PyData.keyHash P x189),(.str x189 318),(.int (.ofNat 40) 317)⟩,⟨(PyData.keyHash P x190),(.str x190 320),(.int (.ofNat 99) 319)⟩,⟨(PyData.keyHash P x191),(.str x191 385),(.ref 118)⟩] 19),#[]⟩
def o118_6 (P:Params):Obj:=⟨(.type "dict"),none,(.dict #[⟨(PyData.keyHash P x192),(.str x192 321),(.ref 119)⟩,⟨(PyData.keyHash P x193),(.str x193 323),(.ref 120)⟩,⟨(PyData.keyHash P x9),(.str x9 325),(.ref 121)⟩,⟨(PyData.keyHash P x194),(.str x194 329),(.ref 122)⟩,⟨(PyData.keyHash P x195),(.str x195 333),(.ref 123)⟩,⟨(PyData.keyHash P x196),(.str x196 338),(.ref 124)⟩,⟨(PyData.keyHash P x197),(.str x197 340),(.ref 125)⟩,⟨(PyData.keyHash P x198),(.str x198 344),(.ref 126)⟩,⟨(PyData.keyHash P x199),(.str x199 348),(.ref 127)⟩,⟨(PyData.keyHash P x38),(.str x38 350),(.ref 128)⟩,⟨(PyData.keyHash P x200),(.str x200 353),(.ref 129)⟩,⟨(PyData.keyHash P x201),(.str x201 359),(.ref 130)⟩,⟨(PyData.keyHash P x202),(.str x202 363),(.ref 131)⟩,⟨(PyData.keyHash P x203),(.str x203 368),(.ref 132)⟩,⟨(PyData.keyHash P x204),(.str x204 372),(.ref 133)⟩,⟨(PyData.keyHash P x205),(.str x205 377),(.ref 134)⟩,⟨(PyData.keyHash P x206),(.str x206 380),(.ref 135)⟩,⟨(PyData.keyHash P x207),(.str x207 383),(.ref 137)⟩] 18),#[]⟩
def o119_6 (P:Params):Obj:=⟨(.type "tuple"),none,(.seq #[] 0),#[]⟩
def o120_6 (P:Params):Obj:=⟨(.type "tuple"),none,(.seq #[] 0),#[]⟩
def o121_6 (P:Params):Obj:=⟨(.type "tuple"),none,(.seq #[(.str x208 326),(.str x208 327)] 0),#[]⟩
def o122_6 (P:Params):Obj:=⟨(.type "tuple"),none,(.seq #[(.str x208 330),(.str x208 331)] 0),#[]⟩
def o123_6 (P:Params):Obj:=⟨(.type "tuple"),none,(.seq #[(.str x208 334),(.str x209 335),(.str x209 336)] 0),#[]⟩
def o124_6 (P:Params):Obj:=⟨(.type "tuple"),none,(.seq #[] 0),#[]⟩
def o125_6 (P:Params):Obj:=⟨(.type "tuple"),none,(.seq #[(.str x208 341),(.str x209 342)] 0),#[]⟩
def o126_6 (P:Params):Obj:=⟨(.type "tuple"),none,(.seq #[(.str x209 345),(.str x209 346)] 0),#[]⟩
def o127_6 (P:Params):Obj:=⟨(.type "tuple"),none,(.seq #[] 0),#[]⟩
def o128_6 (P:Params):Obj:=⟨(.type "tuple"),none,(.seq #[(.str x209 351)] 0),#[]⟩
def o129_6 (P:Params):Obj:=⟨(.type "tuple"),none,(.seq #[(.str x208 354),(.str x209 355),(.str x209 356),(.str x209 357)] 0),#[]⟩
def o130_6 (P:Params):Obj:=⟨(.type "tuple"),none,(.seq #[(.str x208 360),(.str x209 361)] 0),#[]⟩
def o131_6 (P:Params):Obj:=⟨(.type "tuple"),none,(.seq #[(.str x208 364),(.str x209 365),(.str x209 366)] 0),#[]⟩
def o132_6 (P:Params):Obj:=⟨(.type "tuple"),none,(.seq #[(.str x208 369),(.str x209 370)] 0),#[]⟩
def o133_6 (P:Params):Obj:=⟨(.type "tuple"),none,(.seq #[(.str x208 373),(.str x209 374),(.str x209 375)] 0),#[]⟩
def o134_6 (P:Params):Obj:=⟨(.type "tuple"),none,(.seq #[(.str x209 378)] 0),#[]⟩
def o135_6 (P:Params):Obj:=⟨(.type "tuple"),none,(.seq #[(.str x209 381)] 0),#[]⟩
def o136_6 (P:Params):Obj:=⟨(.type "dict"),none,(.dict #[⟨(PyData.keyHash P x207),(.str x207 383),(.ref 137)⟩] 1),#[]⟩
def o137_6 (P:Params):Obj:=⟨(.type "tuple"),none,(.seq #[] 0),#[]⟩
def g6:List Stmt:=[ht 11]
def T6 (P:Params):BT:=((((((((((((((((((((((T5 P).ins (nat_lit 3) (o3_6 P)).ins (nat_lit 118) (o118_6 P)).ins (nat_lit 119) (o119_6 P)).ins (nat_lit 120) (o120_6 P)).ins (nat_lit 121) (o121_6 P)).ins (nat_lit 122) (o122_6 P)).ins (nat_lit 123) (o123_6 P)).ins (nat_lit 124) (o124_6 P)).ins (nat_lit 125) (o125_6 P)).ins (nat_lit 126) (o126_6 P)).ins (nat_lit 127) (o127_6 P)).ins (nat_lit 128) (o128_6 P)).ins (nat_lit 129) (o129_6 P)).ins (nat_lit 130) (o130_6 P)).ins (nat_lit 131) (o131_6 P)).ins (nat_lit 132) (o132_6 P)).ins (nat_lit 133) (o133_6 P)).ins (nat_lit 134) (o134_6 P)).ins (nat_lit 135) (o135_6 P)).ins (nat_lit 136) (o136_6 P)).ins (nat_lit 137) (o137_6 P))
def lf6:Life:=⟨[],[],[],0,[],[],false,#[],[],0,false,false,false,(.ofNat 0),[(.ofNat 2000),(.ofNat 10),(.ofNat 10)],false,0,true,[],[],0,false⟩
abbrev S6 (w:World) (os:OsState):SharedT:=⟨T6 w.params,nat_lit 138,lf6,Array.mk [],⟨0,0,0,0⟩,nat_lit 386,os⟩
def q6f (w:World):(OsState→Option (Flow×SharedT×Code×Pos))×(OsState→Option (Flow×SharedT×Code×Pos)):=(fun os=>segRunT treeTable pw (w.withFollow "special-get-raises" false) (nat_lit 11) (some (.ref 6)) (nat_lit 1) (nat_lit 340) (S5 (w.withFollow "special-get-raises" false) os) (piecesOf g6 hE hC ⟨28,0,28,13⟩ hB),fun os=>some (Flow.next,S6 (w.withFollow "special-get-raises" false) os,hC,⟨29,0,29,8⟩))
theorem q6f_eq:(fun w:World=>HD.seg pw (nat_lit 11) (some (.ref 6)) (nat_lit 340) S5 S6 g6 hE hC ⟨28,0,28,13⟩ ⟨29,0,29,8⟩ hB (w.withFollow "special-get-raises" false))=q6f:=by kernel_rfl
name_quick YK276f for q6f by q6f_eq
theorem i6f (w:World):(Fast.YK276f w).1=(Fast.YK276f w).2:=by kernel_rfl
def q6t (w:World):(OsState→Option (Flow×SharedT×Code×Pos))×(OsState→Option (Flow×SharedT×Code×Pos)):=(fun os=>segRunT treeTable pw (w.withFollow "special-get-raises" true) (nat_lit 11) (some (.ref 6)) (nat_lit 1) (nat_lit 340) (S5 (w.withFollow "special-get-raises" true) os) (piecesOf g6 hE hC ⟨28,0,28,13⟩ hB),fun os=>some (Flow.next,S6 (w.withFollow "special-get-raises" true) os,hC,⟨29,0,29,8⟩))
theorem q6t_eq:(fun w:World=>HD.seg pw (nat_lit 11) (some (.ref 6)) (nat_lit 340) S5 S6 g6 hE hC ⟨28,0,28,13⟩ ⟨29,0,29,8⟩ hB (w.withFollow "special-get-raises" true))=q6t:=by kernel_rfl
name_quick YK276t for q6t by q6t_eq
theorem i6t (w:World):(Fast.YK276t w).1=(Fast.YK276t w).2:=by kernel_rfl
theorem h6:HD.Ok (HD.seg pw (nat_lit 11) (some (.ref 6)) (nat_lit 340) S5 S6 g6 hE hC ⟨28,0,28,13⟩ ⟨29,0,29,8⟩ hB):=HD.by2 "special-get-raises" Fast.YK276f_eq Fast.YK276t_eq i6f i6t
def o3_7 (P:Params):Obj:=⟨(.type "dict"),none,(.dict #[⟨(PyData.keyHash P x0),(.str x0 165),(.str x221 449)⟩,⟨(PyData.keyHash P x2),(.str x2 166),.none⟩,⟨(PyData.keyHash P x3),(.str x3 167),.none⟩,⟨(PyData.keyHash P x4),(.str x4 168),(.builtin "__main__.__loader__#opaque")⟩,⟨(PyData.keyHash P x5),(.str x5 169),.none⟩,⟨(PyData.keyHash P x161),(.str x161 170),(.ref 6)⟩,⟨(PyData.keyHash P x162),(.str x162 171),(.ref 4)⟩,⟨(PyData.keyHash P x163),(.str x163 173),(.str x164 172)⟩,⟨(PyData.keyHash P x165),(.str x165 174),.none⟩,⟨(PyData.keyHash P x167),(.str x167 193),(.ref 21)⟩,⟨(PyData.keyHash P x170),(.str x170 220),(.ref 38)⟩,⟨(PyData.keyHash P x179),(.str x179 243),(.ref 58)⟩,⟨(PyData.keyHash P x181),(.str x181 266),(.ref 77)⟩,⟨(PyData.keyHash P x183),(.str x183 289),(.ref 96)⟩,⟨(PyData.keyHash P x185),(.str x185 312),(.ref 115)⟩,⟨(PyData.keyHash P x188),(.str x188 316),(.int (.ofNat 600) 315)⟩,⟨(PyData.keyHash P x189),(.str x189 318),(.int (.ofNat 40) 317)⟩,⟨(PyData.keyHash P x190),(.str x190 320),(.int (.ofNat 99) 319)⟩,⟨(PyData.keyHash P x191),(.str x191 385),(.ref 118)⟩,⟨(PyData.keyHash P x210),(.str x210 401),(.ref 138)⟩,⟨(PyData.keyHash P x211),(.str x211 408),(.ref 145)⟩,⟨(PyData.keyHash P x213),(.str x213 414),(.ref 150)⟩,⟨(PyData.keyHash P x214),(.str x214 421),(.ref 157)⟩,⟨(PyData.keyHash P x216),(.str x216 427),(.ref 162)⟩,⟨(PyData.keyHash P x217),(.str x217 433),(.ref 167)⟩,⟨(PyData.keyHash P x218),(.str x218 440),(.ref 174)⟩,⟨(PyData.keyHash P x219),(.str x219 448),(.ref 181)⟩,⟨(PyData.keyHash P x222),(.str x222 459),(.ref 188)⟩,⟨(PyData.keyHash P x224),(.str x224 469),(.ref 195)⟩,⟨(PyData.keyHash P x227),(.str x227 480),(.ref 202)⟩] 30),#[]⟩
def o12_7 (P:Params):Obj:=⟨.none,none,(.fields #[(HD.i 1),(HD.i 0),(.ref 20),(HD.i 5),(HD.i 0),(.ref 27),(HD.i 9),(HD.i 0),(.ref 47),(HD.i 13),(HD.i 0),(.ref 66),(HD.i 17),(HD.i 0),(.ref 85),(HD.i 21),(HD.i 0),(.ref 104),(HD.i 31),(HD.i 0),(.ref 144),(HD.i 33),(HD.i 0),(.ref 149),(HD.i 45),(HD.i 0),(.ref 156),(HD.i 49),(HD.i 0),(.ref 161),(HD.i 52),(HD.i 0),(.ref 166),(HD.i 56),(HD.i 0),(.ref 173),(HD.i 60),(HD.i 0),(.ref 180),(HD.i 65),(HD.i 0),(.ref 187),(HD.i 70),(HD.i 0),(.ref 194),(HD.i 75),(HD.i 0),(.ref 201)]),#[]⟩
def o138_7 (P:Params):Obj:=⟨(.type "dict"),none,(.dict #[⟨(PyData.keyHash P x9),(.str x9 386),(.int (.ofNat 1) 387)⟩,⟨(PyData.keyHash P x194),(.str x194 388),(.int (.ofNat 1) 389)⟩,⟨(PyData.keyHash P x197),(.str x197 390),(.int (.ofNat 1) 391)⟩,⟨(PyData.keyHash P x200),(.str x200 392),(.int (.ofNat 0) 393)⟩,⟨(PyData.keyHash P x202),(.str x202 394),(.int (.ofNat 0) 395)⟩] 5),#[]⟩
def o139_7 (P:Params):Obj:=⟨(.type "tuple"),none,(.seq #[] 0),#[]⟩
def o140_7 (P:Params):Obj:=⟨.none,none,(.fields #[]),#[]⟩
def o141_7 (P:Params):Obj:=⟨(.type "tuple"),none,(.seq #[(.str x212 405)] 0),#[]⟩
def o142_7 (P:Params):Obj:=⟨(.type "tuple"),none,(.seq #[] 0),#[]⟩
def o143_7 (P:Params):Obj:=⟨.none,none,(.func ⟨x211,x211,L2.defArgs (ht 13),.stmts (L2.defBody (ht 13)),L2.defScope (ht 13),0,[],.none,.none,.none,.none,none,.none,.none,0⟩),#[]⟩
def o144_7 (P:Params):Obj:=⟨(.type "code"),none,(.fields #[(.str x211 402),(.str x211 403),(.str x164 404),(HD.i 31),(HD.i 1),(HD.i 0),(HD.i 0),(HD.i 3),(.ref 139),(.bool true),(HD.i 181),(.ref 140),.none,(.ref 141),(.ref 142),(.ref 143),(HD.i 406),(HD.i 31),(.str x164 407)]),#[]⟩
def o145_7 (P:Params):Obj:=⟨(.type "function"),none,(.func ⟨x211,x211,L2.defArgs (ht 13),.stmts (L2.defBody (ht 13)),L2.defScope (ht 13),3,[],.none,.none,.none,(.str x187 313),none,(.ref 144),.none,0⟩),#[]⟩
def o146_7 (P:Params):Obj:=⟨(.type "tuple"),none,(.seq #[] 0),#[]⟩
def o147_7 (P:Params):Obj:=⟨.none,none,(.fields #[]),#[]⟩
def o148_7 (P:Params):Obj:=⟨.none,none,(.func ⟨x213,x213,L2.defArgs (ht 14),.stmts (L2.defBody (ht 14)),L2.defScope (ht 14),0,[],.none,.none,.none,.none,none,.none,.none,0⟩),#[]⟩
def o149_7 (P:Params):Obj:=⟨(.type "code"),none,(.fields #[(.str x213 409),(.str x213 410),(.str x164 411),(HD.i 33),(HD.i 1),(HD.i 0),(HD.i 0),(HD.i 3),(.ref 146),(.bool true),(HD.i 181),(.ref 147),.none,.none,.none,(.ref 148),(HD.i 412),(HD.i 33),(.str x164 413)]),#[]⟩
def o150_7 (P:Params):Obj:=⟨(.type "function"),none,(.func ⟨x213,x213,L2.defArgs (ht 14),.stmts (L2.defBody (ht 14)),L2.defScope (ht 14),3,[],.none,.none,.none,(.str x187 313),none,(.ref 149),.none,0⟩),#[]⟩
def o151_7 (P:Params):Obj:=⟨(.type "tuple"),none,(.seq #[] 0),#[]⟩
def o152_7 (P:Params):Obj:=⟨.none,none,(.fields #[]),#[]⟩
def o153_7 (P:Params):Obj:=⟨(.type "tuple"),none,(.seq #[(.str x215 418)] 0),#[]⟩
def o154_7 (P:Params):Obj:=⟨(.type "tuple"),none,(.seq #[] 0),#[]⟩
def o155_7 (P:Params):Obj:=⟨.none,none,(.func ⟨x214,x214,L2.defArgs (ht 15),.stmts (L2.defBody (ht 15)),L2.defScope (ht 15),0,[],.none,.none,.none,.none,none,.none,.none,0⟩),#[]⟩
def o156_7 (P:Params):Obj:=⟨(.type "code"),none,(.fields #[(.str x214 415),(.str x214 416),(.str x164 417),(HD.i 45),(HD.i 1),(HD.i 0),(HD.i 0),(HD.i 3),(.ref 151),(.bool true),(HD.i 181),(.ref 152),.none,(.ref 153),(.ref 154),(.ref 155),(HD.i 419),(HD.i 45),(.str x164 420)]),#[]⟩
def o157_7 (P:Params):Obj:=⟨(.type "function"),none,(.func ⟨x214,x214,L2.defArgs (ht 15),.stmts (L2.defBody (ht 15)),L2.defScope (ht 15),3,[],.none,.none,.none,(.str x187 313),none,(.ref 156),.none,0⟩),#[]⟩
def o158_7 (P:Params):Obj:=⟨(.type "tuple"),none,(.seq #[] 0),#[]⟩
def o159_7 (P:Params):Obj:=⟨.none,none,(.fields #[]),#[]⟩
def o160_7 (P:Params):Obj:=⟨.none,none,(.func ⟨x216,x216,L2.defArgs (ht 16),.stmts (L2.defBody (ht 16)),L2.defScope (ht 16),0,[],.none,.none,.none,.none,none,.none,.none,0⟩),#[]⟩
def o161_7 (P:Params):Obj:=⟨(.type "code"),none,(.fields #[(.str x216 422),(.str x216 423),(.str x164 424),(HD.i 49),(HD.i 1),(HD.i 0),(HD.i 0),(HD.i 3),(.ref 158),(.bool true),(HD.i 181),(.ref 159),.none,.none,.none,(.ref 160),(HD.i 425),(HD.i 49),(.str x164 426)]),#[]⟩
def o162_7 (P:Params):Obj:=⟨(.type "function"),none,(.func ⟨x216,x216,L2.defArgs (ht 16),.stmts (L2.defBody (ht 16)),L2.defScope (ht 16),3,[],.none,.none,.none,(.str x187 313),none,(.ref 161),.none,0⟩),#[]⟩
def o163_7 (P:Params):Obj:=⟨(.type "tuple"),none,(.seq #[] 0),#[]⟩
def o164_7 (P:Params):Obj:=⟨.none,none,(.fields #[]),#[]⟩
def o165_7 (P:Params):Obj:=⟨.none,none,(.func ⟨x217,x217,L2.defArgs (ht 17),.stmts (L2.defBody (ht 17)),L2.defScope (ht 17),0,[],.none,.none,.none,.none,none,.none,.none,0⟩),#[]⟩
def o166_7 (P:Params):Obj:=⟨(.type "code"),none,(.fields #[(.str x217 428),(.str x217 429),(.str x164 430),(HD.i 52),(HD.i 1),(HD.i 0),(HD.i 0),(HD.i 3),(.ref 163),(.bool true),(HD.i 181),(.ref 164),.none,.none,.none,(.ref 165),(HD.i 431),(HD.i 52),(.str x164 432)]),#[]⟩
def o167_7 (P:Params):Obj:=⟨(.type "function"),none,(.func ⟨x217,x217,L2.defArgs (ht 17),.stmts (L2.defBody (ht 17)),L2.defScope (ht 17),3,[],.none,.none,.none,(.str x187 313),none,(.ref 166),.none,0⟩),#[]⟩
def o168_7 (P:Params):Obj:=⟨(.type "tuple"),none,(.seq #[] 0),#[]⟩
def o169_7 (P:Params):Obj:=⟨.none,none,(.fields #[]),#[]⟩
def o170_7 (P:Params):Obj:=⟨(.type "tuple"),none,(.seq #[(.str x215 437)] 0),#[]⟩
def o171_7 (P:Params):Obj:=⟨(.type "tuple"),none,(.seq #[] 0),#[]⟩
def o172_7 (P:Params):Obj:=⟨.none,none,(.func ⟨x218,x218,L2.defArgs (ht 18),.stmts (L2.defBody (ht 18)),L2.defScope (ht 18),0,[],.none,.none,.none,.none,none,.none,.none,0⟩),#[]⟩
def o173_7 (P:Params):Obj:=⟨(.type "code"),none,(.fields #[(.str x218 434),(.str x218 435),(.str x164 436),(HD.i 56),(HD.i 1),(HD.i 0),(HD.i 0),(HD.i 3),(.ref 168),(.bool true),(HD.i 181),(.ref 169),.none,(.ref 170),(.ref 171),(.ref 172),(HD.i 438),(HD.i 56),(.str x164 439)]),#[]⟩
def o174_7 (P:Params):Obj:=⟨(.type "function"),none,(.func ⟨x218,x218,L2.defArgs (ht 18),.stmts (L2.defBody (ht 18)),L2.defScope (ht 18),3,[],.none,.none,.none,(.str x187 313),none,(.ref 173),.none,0⟩),#[]⟩
def o175_7 (P:Params):Obj:=⟨(.type "tuple"),none,(.seq #[] 0),#[]⟩
def o176_7 (P:Params):Obj:=⟨.none,none,(.fields #[]),#[]⟩
def o177_7 (P:Params):Obj:=⟨(.type "tuple"),none,(.seq #[(.str x215 444),(.str x220 445)] 0),#[]⟩
def o178_7 (P:Params):Obj:=⟨(.type "tuple"),none,(.seq #[] 0),#[]⟩
def o179_7 (P:Params):Obj:=⟨.none,none,(.func ⟨x219,x219,L2.defArgs (ht 19),.stmts (L2.defBody (ht 19)),L2.defScope (ht 19),0,[],.none,.none,.none,.none,none,.none,.none,0⟩),#[]⟩
def o180_7 (P:Params):Obj:=⟨(.type "code"),none,(.fields #[(.str x219 441),(.str x219 442),(.str x164 443),(HD.i 60),(HD.i 2),(HD.i 0),(HD.i 0),(HD.i 3),(.ref 175),(.bool true),(HD.i 181),(.ref 176),.none,(.ref 177),(.ref 178),(.ref 179),(HD.i 446),(HD.i 60),(.str x164 447)]),#[]⟩
def o181_7 (P:Params):Obj:=⟨(.type "function"),none,(.func ⟨x219,x219,L2.defArgs (ht 19),.stmts (L2.defBody (ht 19)),L2.defScope (ht 19),3,[],.none,.none,.none,(.str x187 313),none,(.ref 180),.none,0⟩),#[]⟩
def o182_7 (P:Params):Obj:=⟨(.type "tuple"),none,(.seq #[] 0),#[]⟩
def o183_7 (P:Params):Obj:=⟨.none,none,(.fields #[]),#[]⟩
def o184_7 (P:Params):Obj:=⟨(.type "tuple"),none,(.seq #[(.str x215 454),(.str x223 455),(.str x220 456)] 0),#[]⟩
def o185_7 (P:Params):Obj:=⟨(.type "tuple"),none,(.seq #[] 0),#[]⟩
def o186_7 (P:Params):Obj:=⟨.none,none,(.func ⟨x222,x222,L2.defArgs (ht 21),.stmts (L2.defBody (ht 21)),L2.defScope (ht 21),0,[],.none,.none,.none,.none,none,.none,.none,0⟩),#[]⟩
def o187_7 (P:Params):Obj:=⟨(.type "code"),none,(.fields #[(.str x222 451),(.str x222 452),(.str x164 453),(HD.i 65),(HD.i 2),(HD.i 0),(HD.i 0),(HD.i 3),(.ref 182),(.bool true),(HD.i 181),(.ref 183),.none,(.ref 184),(.ref 185),(.ref 186),(HD.i 457),(HD.i 65),(.str x164 458)]),#[]⟩
def o188_7 (P:Params):Obj:=⟨(.type "function"),none,(.func ⟨x222,x222,L2.defArgs (ht 21),.stmts (L2.defBody (ht 21)),L2.defScope (ht 21),3,[],.none,.none,.none,(.str x221 449),none,(.ref 187),.none,0⟩),#[]⟩
def o189_7 (P:Params):Obj:=⟨(.type "tuple"),none,(.seq #[] 0),#[]⟩
def o190_7 (P:Params):Obj:=⟨.none,none,(.fields #[]),#[]⟩
def o191_7 (P:Params):Obj:=⟨(.type "tuple"),none,(.seq #[(.str x215 463),(.str x225 464),(.str x226 465),(.str x223 466)] 0),#[]⟩
def o192_7 (P:Params):Obj:=⟨(.type "tuple"),none,(.seq #[] 0),#[]⟩
def o193_7 (P:Params):Obj:=⟨.none,none,(.func ⟨x224,x224,L2.defArgs (ht 22),.stmts (L2.defBody (ht 22)),L2.defScope (ht 22),0,[],.none,.none,.none,.none,none,.none,.none,0⟩),#[]⟩
def o194_7 (P:Params):Obj:=⟨(.type "code"),none,(.fields #[(.str x224 460),(.str x224 461),(.str x164 462),(HD.i 70),(HD.i 2),(HD.i 0),(HD.i 0),(HD.i 3),(.ref 189),(.bool true),(HD.i 181),(.ref 190),.none,(.ref 191),(.ref 192),(.ref 193),(HD.i 467),(HD.i 70),(.str x164 468)]),#[]⟩
def o195_7 (P:Params):Obj:=⟨(.type "function"),none,(.func ⟨x224,x224,L2.defArgs (ht 22),.stmts (L2.defBody (ht 22)),L2.defScope (ht 22),3,[],.none,.none,.none,(.str x221 449),none,(.ref 194),.none,0⟩),#[]⟩
def o196_7 (P:Params):Obj:=⟨(.type "tuple"),none,(.seq #[] 0),#[]⟩
def o197_7 (P:Params):Obj:=⟨.none,none,(.fields #[]),#[]⟩
def o198_7 (P:Params):Obj:=⟨(.type "tuple"),none,(.seq #[(.str x215 473),(.str x225 474),(.str x228 475),(.str x229 476),(.str x220 477)] 0),#[]⟩
def o199_7 (P:Params):Obj:=⟨(.type "tuple"),none,(.seq #[] 0),#[]⟩
def o200_7 (P:Params):Obj:=⟨.none,none,(.func ⟨x227,x227,L2.defArgs (ht 23),.stmts (L2.defBody (ht 23)),L2.defScope (ht 23),0,[],.none,.none,.none,.none,none,.none,.none,0⟩),#[]⟩
def o201_7 (P:Params):Obj:=⟨(.type "code"),none,(.fields #[(.str x227 470),(.str x227 471),(.str x164 472),(HD.i 75),(HD.i 3),(HD.i 0),(HD.i 0),(HD.i 3),(.ref 196),(.bool true),(HD.i 181),(.ref 197),.none,(.ref 198),(.ref 199),(.ref 200),(HD.i 478),(HD.i 75),(.str x164 479)]),#[]⟩
def o202_7 (P:Params):Obj:=⟨(.type "function"),none,(.func ⟨x227,x227,L2.defArgs (ht 23),.stmts (L2.defBody (ht 23)),L2.defScope (ht 23),3,[],.none,.none,.none,(.str x221 449),none,(.ref 201),.none,0⟩),#[]⟩
def g7:List Stmt:=[ht 12,ht 13,ht 14,ht 15,ht 16,ht 17,ht 18,ht 19,ht 20,ht 21,ht 22,ht 23]
def T7 (P:Params):BT:=((((((((((((((((((((((((((((((((((((((((((((((((((((((((((((((((((((T6 P).ins (nat_lit 3) (o3_7 P)).ins (nat_lit 12) (o12_7 P)).ins (nat_lit 138) (o138_7 P)).ins (nat_lit 139) (o139_7 P)).ins (nat_lit 140) (o140_7 P)).ins (nat_lit 141) (o141_7 P)).ins (nat_lit 142) (o142_7 P)).ins (nat_lit 143) (o143_7 P)).ins (nat_lit 144) (o144_7 P)).ins (nat_lit 145) (o145_7 P)).ins (nat_lit 146) (o146_7 P)).ins (nat_lit 147) (o147_7 P)).ins (nat_lit 148) (o148_7 P)).ins (nat_lit 149) (o149_7 P)).ins (nat_lit 150) (o150_7 P)).ins (nat_lit 151) (o151_7 P)).ins (nat_lit 152) (o152_7 P)).ins (nat_lit 153) (o153_7 P)).ins (nat_lit 154) (o154_7 P)).ins (nat_lit 155) (o155_7 P)).ins (nat_lit 156) (o156_7 P)).ins (nat_lit 157) (o157_7 P)).ins (nat_lit 158) (o158_7 P)).ins (nat_lit 159) (o159_7 P)).ins (nat_lit 160) (o160_7 P)).ins (nat_lit 161) (o161_7 P)).ins (nat_lit 162) (o162_7 P)).ins (nat_lit 163) (o163_7 P)).ins (nat_lit 164) (o164_7 P)).ins (nat_lit 165) (o165_7 P)).ins (nat_lit 166) (o166_7 P)).ins (nat_lit 167) (o167_7 P)).ins (nat_lit 168) (o168_7 P)).ins (nat_lit 169) (o169_7 P)).ins (nat_lit 170) (o170_7 P)).ins (nat_lit 171) (o171_7 P)).ins (nat_lit 172) (o172_7 P)).ins (nat_lit 173) (o173_7 P)).ins (nat_lit 174) (o174_7 P)).ins (nat_lit 175) (o175_7 P)).ins (nat_lit 176) (o176_7 P)).ins (nat_lit 177) (o177_7 P)).ins (nat_lit 178) (o178_7 P)).ins (nat_lit 179) (o179_7 P)).ins (nat_lit 180) (o180_7 P)).ins (nat_lit 181) (o181_7 P)).ins (nat_lit 182) (o182_7 P)).ins (nat_lit 183) (o183_7 P)).ins (nat_lit 184) (o184_7 P)).ins (nat_lit 185) (o185_7 P)).ins (nat_lit 186) (o186_7 P)).ins (nat_lit 187) (o187_7 P)).ins (nat_lit 188) (o188_7 P)).ins (nat_lit 189) (o189_7 P)).ins (nat_lit 190) (o190_7 P)).ins (nat_lit 191) (o191_7 P)).ins (nat_lit 192) (o192_7 P)).ins (nat_lit 193) (o193_7 P)).ins (nat_lit 194) (o194_7 P)).ins (nat_lit 195) (o195_7 P)).ins (nat_lit 196) (o196_7 P)).ins (nat_lit 197) (o197_7 P)).ins (nat_lit 198) (o198_7 P)).ins (nat_lit 199) (o199_7 P)).ins (nat_lit 200) (o200_7 P)).ins (nat_lit 201) (o201_7 P)).ins (nat_lit 202) (o202_7 P))
def lf7:Life:=⟨[],[],[],0,[],[],false,#[],[],0,false,false,false,(.ofNat 0),[(.ofNat 2000),(.ofNat 10),(.ofNat 10)],false,0,true,[],[],0,false⟩
abbrev S7 (w:World) (os:OsState):SharedT:=⟨T7 w.params,nat_lit 203,lf7,Array.mk [],⟨0,0,0,0⟩,nat_lit 481,os⟩
def q7f (w:World):(OsState→Option (Flow×SharedT×Code×Pos))×(OsState→Option (Flow×SharedT×Code×Pos)):=(fun os=>segRunT treeTable pw (w.withFollow "special-get-raises" false) (nat_lit 11) (some (.ref 6)) (nat_lit 1) (nat_lit 386) (S6 (w.withFollow "special-get-raises" false) os) (piecesOf g7 hE hC ⟨29,0,29,8⟩ hB),fun os=>some (Flow.next,S7 (w.withFollow "special-get-raises" false) os,hC,⟨75,0,81,31⟩))
theorem q7f_eq:(fun w:World=>HD.seg pw (nat_lit 11) (some (.ref 6)) (nat_lit 386) S6 S7 g7 hE hC ⟨29,0,29,8⟩ ⟨75,0,81,31⟩ hB (w.withFollow "special-get-raises" false))=q7f:=by kernel_rfl
name_quick YK277f for q7f by q7f_eq
theorem i7f (w:World):(Fast.YK277f w).1=(Fast.YK277f w).2:=by kernel_rfl
def q7t (w:World):(OsState→Option (Flow×SharedT×Code×Pos))×(OsState→Option (Flow×SharedT×Code×Pos)):=(fun os=>segRunT treeTable pw (w.withFollow "special-get-raises" true) (nat_lit 11) (some (.ref 6)) (nat_lit 1) (nat_lit 386) (S6 (w.withFollow "special-get-raises" true) os) (piecesOf g7 hE hC ⟨29,0,29,8⟩ hB),fun os=>some (Flow.next,S7 (w.withFollow "special-get-raises" true) os,hC,⟨75,0,81,31⟩))
theorem q7t_eq:(fun w:World=>HD.seg pw (nat_lit 11) (some (.ref 6)) (nat_lit 386) S6 S7 g7 hE hC ⟨29,0,29,8⟩ ⟨75,0,81,31⟩ hB (w.withFollow "special-get-raises" true))=q7t:=by kernel_rfl
name_quick YK277t for q7t by q7t_eq
theorem i7t (w:World):(Fast.YK277t w).1=(Fast.YK277t w).2:=by kernel_rfl
theorem h7:HD.Ok (HD.seg pw (nat_lit 11) (some (.ref 6)) (nat_lit 386) S6 S7 g7 hE hC ⟨29,0,29,8⟩ ⟨75,0,81,31⟩ hB):=HD.by2 "special-get-raises" Fast.YK277f_eq Fast.YK277t_eq i7f i7t
def o3_8 (P:Params):Obj:=⟨(.type "dict"),none,(.dict #[⟨(PyData.keyHash P x0),(.str x0 165),(.str x240 522)⟩,⟨(PyData.keyHash P x2),(.str x2 166),.none⟩,⟨(PyData.keyHash P x3),(.str x3 167),.none⟩,⟨(PyData.keyHash P x4),(.str x4 168),(.builtin "__main__.__loader__#opaque")⟩,⟨(PyData.keyHash P x5),(.str x5 169),.none⟩,⟨(PyData.keyHash P x161),(.str x161 170),(.ref 6)⟩,⟨(PyData.keyHash P x162),(.str x162 171),(.ref 4)⟩,⟨(PyData.keyHash P x163),(.str x163 173),(.str x164 172)⟩,⟨(PyData.keyHash P x165),(.str x165 174),.none⟩,⟨(PyData.keyHash P x167),(.str x167 193),(.ref 21)⟩,⟨(PyData.keyHash P x170),(.str x170 220),(.ref 38)⟩,⟨(PyData.keyHash P x179),(.str x179 243),(.ref 58)⟩,⟨(PyData.keyHash P x181),(.str x181 266),(.ref 77)⟩,⟨(PyData.keyHash P x183),(.str x183 289),(.ref 96)⟩,⟨(PyData.keyHash P x185),(.str x185 312),(.ref 115)⟩,⟨(PyData.keyHash P x188),(.str x188 316),(.int (.ofNat 600) 315)⟩,⟨(PyData.keyHash P x189),(.str x189 318),(.int (.ofNat 40) 317)⟩,⟨(PyData.keyHash P x190),(.str x190 320),(.int (.ofNat 99) 319)⟩,⟨(PyData.keyHash P x191),(.str x191 385),(.ref 118)⟩,⟨(PyData.keyHash P x210),(.str x210 401),(.ref 138)⟩,⟨(PyData.keyHash P x211),(.str x211 408),(.ref 145)⟩,⟨(PyData.keyHash P x213),(.str x213 414),(.ref 150)⟩,⟨(PyData.keyHash P x214),(.str x214 421),(.ref 157)⟩,⟨(PyData.keyHash P x216),(.str x216 427),(.ref 162)⟩,⟨(PyData.keyHash P x217),(.str x217 433),(.ref 167)⟩,⟨(PyData.keyHash P x218),(.str x218 440),(.ref 174)⟩,⟨(PyData.keyHash P x219),(.str x219 448),(.ref 181)⟩,⟨(PyData.keyHash P x222),(.str x222 459),(.ref 188)⟩,⟨(PyData.keyHash P x224),(.str x224 469),(.ref 195)⟩,⟨(PyData.keyHash P x227),(.str x227 480),(.ref 202)⟩,⟨(PyData.keyHash P x230),(.str x230 489),(.ref 209)⟩,⟨(PyData.keyHash P x232),(.str x232 497),(.ref 214)⟩,⟨(PyData.keyHash P x233),(.str x233 509),(.ref 221)⟩,⟨(PyData.keyHash P x237),(.str x237 521),(.ref 228)⟩,⟨(PyData.keyHash P x241),(.str x241 552),(.ref 229)⟩,⟨(PyData.keyHash P x242),(.str x242 563),(.ref 247)⟩,⟨(PyData.keyHash P x247),(.str x247 571),(.ref 254)⟩,⟨(PyData.keyHash P x248),(.str x248 580),(.ref 261)⟩,⟨(PyData.keyHash P x249),(.str x249 591),(.ref 268)⟩] 39),#[]⟩
def o12_8 (P:Params):Obj:=⟨.none,none,(.fields #[(HD.i 1),(HD.i 0),(.ref 20),(HD.i 5),(HD.i 0),(.ref 27),(HD.i 9),(HD.i 0),(.ref 47),(HD.i 13),(HD.i 0),(.ref 66),(HD.i 17),(HD.i 0),(.ref 85),(HD.i 21),(HD.i 0),(.ref 104),(HD.i 31),(HD.i 0),(.ref 144),(HD.i 33),(HD.i 0),(.ref 149),(HD.i 45),(HD.i 0),(.ref 156),(HD.i 49),(HD.i 0),(.ref 161),(HD.i 52),(HD.i 0),(.ref 166),(HD.i 56),(HD.i 0),(.ref 173),(HD.i 60),(HD.i 0),(.ref 180),(HD.i 65),(HD.i 0),(.ref 187),(HD.i 70),(HD.i 0),(.ref 194),(HD.i 75),(HD.i 0),(.ref 201),(HD.i 82),(HD.i 0),(.ref 208),(HD.i 85),(HD.i 0),(.ref 213),(HD.i 90),(HD.i 0),(.ref 220),(HD.i 95),(HD.i 0),(.ref 227),(HD.i 104),(HD.i 0),(.ref 246),(HD.i 111),(HD.i 0),(.ref 253),(HD.i 114),(HD.i 0),(.ref 260),(HD.i 126),(HD.i 0),(.ref 267)]),#[]⟩
def o203_8 (P:Params):Obj:=⟨(.type "tuple"),none,(.seq #[] 0),#[]⟩
def o204_8 (P:Params):Obj:=⟨.none,none,(.fields #[]),#[]⟩
def o205_8 (P:Params):Obj:=⟨(.type "tuple"),none,(.seq #[(.str x215 484),(.str x225 485),(.str x228 486)] 0),#[]⟩
def o206_8 (P:Params):Obj:=⟨(.type "tuple"),none,(.seq #[] 0),#[]⟩
def o207_8 (P:Params):Obj:=⟨.none,none,(.func ⟨x230,x230,L2.defArgs (ht 24),.stmts (L2.defBody (ht 24)),L2.defScope (ht 24),0,[],.none,.none,.none,.none,none,.none,.none,0⟩),#[]⟩
def o208_8 (P:Params):Obj:=⟨(.type "code"),none,(.fields #[(.str x230 481),(.str x230 482),(.str x164 483),(HD.i 82),(HD.i 3),(HD.i 0),(HD.i 0),(HD.i 3),(.ref 203),(.bool true),(HD.i 181),(.ref 204),.none,(.ref 205),(.ref 206),(.ref 207),(HD.i 487),(HD.i 82),(.str x164 488)]),#[]⟩
def o209_8 (P:Params):Obj:=⟨(.type "function"),none,(.func ⟨x230,x230,L2.defArgs (ht 24),.stmts (L2.defBody (ht 24)),L2.defScope (ht 24),3,[],.none,.none,.none,(.str x221 449),none,(.ref 208),.none,0⟩),#[]⟩
def o210_8 (P:Params):Obj:=⟨(.type "tuple"),none,(.seq #[] 0),#[]⟩
def o211_8 (P:Params):Obj:=⟨.none,none,(.fields #[]),#[]⟩
def o212_8 (P:Params):Obj:=⟨.none,none,(.func ⟨x232,x232,L2.defArgs (ht 26),.stmts (L2.defBody (ht 26)),L2.defScope (ht 26),0,[],.none,.none,.none,.none,none,.none,.none,0⟩),#[]⟩
def o213_8 (P:Params):Obj:=⟨(.type "code"),none,(.fields #[(.str x232 492),(.str x232 493),(.str x164 494),(HD.i 85),(HD.i 3),(HD.i 0),(HD.i 0),(HD.i 3),(.ref 210),(.bool true),(HD.i 181),(.ref 211),.none,.none,.none,(.ref 212),(HD.i 495),(HD.i 85),(.str x164 496)]),#[]⟩
def o214_8 (P:Params):Obj:=⟨(.type "function"),none,(.func ⟨x232,x232,L2.defArgs (ht 26),.stmts (L2.defBody (ht 26)),L2.defScope (ht 26),3,[],.none,.none,.none,(.str x231 490),none,(.ref 213),.none,0⟩),#[]⟩
def o215_8 (P:Params):Obj:=⟨(.type "tuple"),none,(.seq #[] 0),#[]⟩
def o216_8 (P:Params):Obj:=⟨.none,none,(.fields #[]),#[]⟩
def o217_8 (P:Params):Obj:=⟨(.type "tuple"),none,(.seq #[(.str x215 501),(.str x234 502),(.str x235 503),(.str x236 504)] 0),#[]⟩
def o218_8 (P:Params):Obj:=⟨(.type "tuple"),none,(.seq #[(.str x234 505),(.str x235 506)] 0),#[]⟩
def o219_8 (P:Params):Obj:=⟨.none,none,(.func ⟨x233,x233,L2.defArgs (ht 27),.stmts (L2.defBody (ht 27)),L2.defScope (ht 27),0,[],.none,.none,.none,.none,none,.none,.none,0⟩),#[]⟩
def o220_8 (P:Params):Obj:=⟨(.type "code"),none,(.fields #[(.str x233 498),(.str x233 499),(.str x164 500),(HD.i 90),(HD.i 3),(HD.i 0),(HD.i 0),(HD.i 3),(.ref 215),(.bool true),(HD.i 181),(.ref 216),.none,(.ref 217),(.ref 218),(.ref 219),(HD.i 507),(HD.i 90),(.str x164 508)]),#[]⟩
def o221_8 (P:Params):Obj:=⟨(.type "function"),none,(.func ⟨x233,x233,L2.defArgs (ht 27),.stmts (L2.defBody (ht 27)),L2.defScope (ht 27),3,[],.none,.none,.none,(.str x231 490),none,(.ref 220),.none,0⟩),#[]⟩
def o222_8 (P:Params):Obj:=⟨(.type "tuple"),none,(.seq #[] 0),#[]⟩
def o223_8 (P:Params):Obj:=⟨.none,none,(.fields #[]),#[]⟩
def o224_8 (P:Params):Obj:=⟨(.type "tuple"),none,(.seq #[(.str x215 513),(.str x238 514),(.str x239 515),(.str x236 516)] 0),#[]⟩
def o225_8 (P:Params):Obj:=⟨(.type "tuple"),none,(.seq #[(.str x238 517),(.str x239 518)] 0),#[]⟩
def o226_8 (P:Params):Obj:=⟨.none,none,(.func ⟨x237,x237,L2.defArgs (ht 28),.stmts (L2.defBody (ht 28)),L2.defScope (ht 28),0,[],.none,.none,.none,.none,none,.none,.none,0⟩),#[]⟩
def o227_8 (P:Params):Obj:=⟨(.type "code"),none,(.fields #[(.str x237 510),(.str x237 511),(.str x164 512),(HD.i 95),(HD.i 3),(HD.i 0),(HD.i 0),(HD.i 3),(.ref 222),(.bool true),(HD.i 181),(.ref 223),.none,(.ref 224),(.ref 225),(.ref 226),(HD.i 519),(HD.i 95),(.str x164 520)]),#[]⟩
def o228_8 (P:Params):Obj:=⟨(.type "function"),none,(.func ⟨x237,x237,L2.defArgs (ht 28),.stmts (L2.defBody (ht 28)),L2.defScope (ht 28),3,[],.none,.none,.none,(.str x231 490),none,(.ref 227),.none,0⟩),#[]⟩
def o229_8 (P:Params):Obj:=⟨(.type "dict"),none,(.dict #[⟨(PyData.keyHash P x198),(.str x198 524),(.ref 231)⟩,⟨(PyData.keyHash P x200),(.str x200 528),(.ref 234)⟩,⟨(PyData.keyHash P x202),(.str x202 535),(.ref 236)⟩,⟨(PyData.keyHash P x205),(.str x205 539),(.ref 238)⟩,⟨(PyData.keyHash P x206),(.str x206 543),(.ref 240)⟩] 5),#[]⟩
def o230_8 (P:Params):Obj:=⟨(.type "tuple"),none,(.seq #[(.int (.ofNat 1) 525),(.str x197 526),(.str x197 527)] 0),#[]⟩
def o231_8 (P:Params):Obj:=⟨(.type "tuple"),none,(.seq #[(.ref 230)] 0),#[]⟩
def o232_8 (P:Params):Obj:=⟨(.type "tuple"),none,(.seq #[(.int (.ofNat 4) 529),(.str x199 530),(.str x199 531)] 0),#[]⟩
def o233_8 (P:Params):Obj:=⟨(.type "tuple"),none,(.seq #[(.int (.ofNat 4) 532),(.str x38 533),(.str x38 534)] 0),#[]⟩
def o234_8 (P:Params):Obj:=⟨(.type "tuple"),none,(.seq #[(.ref 232),(.ref 233)] 0),#[]⟩
def o235_8 (P:Params):Obj:=⟨(.type "tuple"),none,(.seq #[(.int (.ofNat 3) 536),(.str x201 537),(.str x201 538)] 0),#[]⟩
def o236_8 (P:Params):Obj:=⟨(.type "tuple"),none,(.seq #[(.ref 235)] 0),#[]⟩
def o237_8 (P:Params):Obj:=⟨(.type "tuple"),none,(.seq #[(.int (.ofNat 1) 540),(.str x204 541),(.str x205 542)] 0),#[]⟩
def o238_8 (P:Params):Obj:=⟨(.type "tuple"),none,(.seq #[(.ref 237)] 0),#[]⟩
def o239_8 (P:Params):Obj:=⟨(.type "tuple"),none,(.seq #[(.int (.ofNat 1) 544),(.str x204 545),(.str x206 546)] 0),#[]⟩
def o240_8 (P:Params):Obj:=⟨(.type "tuple"),none,(.seq #[(.ref 239)] 0),#[]⟩
def o241_8 (P:Params):Obj:=⟨(.type "tuple"),none,(.seq #[] 0),#[]⟩
def o242_8 (P:Params):Obj:=⟨.none,none,(.fields #[]),#[]⟩
def o243_8 (P:Params):Obj:=⟨(.type "tuple"),none,(.seq #[(.str x215 556),(.str x243 557),(.str x244 558),(.str x245 559),(.str x246 560)] 0),#[]⟩
def o244_8 (P:Params):Obj:=⟨(.type "tuple"),none,(.seq #[] 0),#[]⟩
def o245_8 (P:Params):Obj:=⟨.none,none,(.func ⟨x242,x242,L2.defArgs (ht 31),.stmts (L2.defBody (ht 31)),L2.defScope (ht 31),0,[],.none,.none,.none,.none,none,.none,.none,0⟩),#[]⟩
def o246_8 (P:Params):Obj:=⟨(.type "code"),none,(.fields #[(.str x242 553),(.str x242 554),(.str x164 555),(HD.i 104),(HD.i 2),(HD.i 0),(HD.i 0),(HD.i 3),(.ref 241),(.bool true),(HD.i 181),(.ref 242),.none,(.ref 243),(.ref 244),(.ref 245),(HD.i 561),(HD.i 104),(.str x164 562)]),#[]⟩
def o247_8 (P:Params):Obj:=⟨(.type "function"),none,(.func ⟨x242,x242,L2.defArgs (ht 31),.stmts (L2.defBody (ht 31)),L2.defScope (ht 31),3,[],.none,.none,.none,(.str x240 522),none,(.ref 246),.none,0⟩),#[]⟩
def o248_8 (P:Params):Obj:=⟨(.type "tuple"),none,(.seq #[] 0),#[]⟩
def o249_8 (P:Params):Obj:=⟨.none,none,(.fields #[]),#[]⟩
def o250_8 (P:Params):Obj:=⟨(.type "tuple"),none,(.seq #[(.str x215 567),(.str x223 568)] 0),#[]⟩
def o251_8 (P:Params):Obj:=⟨(.type "tuple"),none,(.seq #[] 0),#[]⟩
def o252_8 (P:Params):Obj:=⟨.none,none,(.func ⟨x247,x247,L2.defArgs (ht 32),.stmts (L2.defBody (ht 32)),L2.defScope (ht 32),0,[],.none,.none,.none,.none,none,.none,.none,0⟩),#[]⟩
def o253_8 (P:Params):Obj:=⟨(.type "code"),none,(.fields #[(.str x247 564),(.str x247 565),(.str x164 566),(HD.i 111),(HD.i 1),(HD.i 0),(HD.i 0),(HD.i 3),(.ref 248),(.bool true),(HD.i 181),(.ref 249),.none,(.ref 250),(.ref 251),(.ref 252),(HD.i 569),(HD.i 111),(.str x164 570)]),#[]⟩
def o254_8 (P:Params):Obj:=⟨(.type "function"),none,(.func ⟨x247,x247,L2.defArgs (ht 32),.stmts (L2.defBody (ht 32)),L2.defScope (ht 32),3,[],.none,.none,.none,(.str x240 522),none,(.ref 253),.none,0⟩),#[]⟩
def o255_8 (P:Params):Obj:=⟨(.type "tuple"),none,(.seq #[] 0),#[]⟩
def o256_8 (P:Params):Obj:=⟨.none,none,(.fields #[]),#[]⟩
def o257_8 (P:Params):Obj:=⟨(.type "tuple"),none,(.seq #[(.str x215 575),(.str x246 576),(.str x243 577)] 0),#[]⟩
def o258_8 (P:Params):Obj:=⟨(.type "tuple"),none,(.seq #[] 0),#[]⟩
def o259_8 (P:Params):Obj:=⟨.none,none,(.func ⟨x248,x248,L2.defArgs (ht 33),.stmts (L2.defBody (ht 33)),L2.defScope (ht 33),0,[],.none,.none,.none,.none,none,.none,.none,0⟩),#[]⟩
def o260_8 (P:Params):Obj:=⟨(.type "code"),none,(.fields #[(.str x248 572),(.str x248 573),(.str x164 574),(HD.i 114),(HD.i 3),(HD.i 0),(HD.i 0),(HD.i 3),(.ref 255),(.bool true),(HD.i 181),(.ref 256),.none,(.ref 257),(.ref 258),(.ref 259),(HD.i 578),(HD.i 114),(.str x164 579)]),#[]⟩
def o261_8 (P:Params):Obj:=⟨(.type "function"),none,(.func ⟨x248,x248,L2.defArgs (ht 33),.stmts (L2.defBody (ht 33)),L2.defScope (ht 33),3,[],.none,.none,.none,(.str x240 522),none,(.ref 260),.none,0⟩),#[]⟩
def o262_8 (P:Params):Obj:=⟨(.type "tuple"),none,(.seq #[] 0),#[]⟩
def o263_8 (P:Params):Obj:=⟨.none,none,(.fields #[]),#[]⟩
def o264_8 (P:Params):Obj:=⟨(.type "tuple"),none,(.seq #[(.str x215 584),(.str x225 585),(.str x243 586),(.str x226 587),(.str x246 588)] 0),#[]⟩
def o265_8 (P:Params):Obj:=⟨(.type "tuple"),none,(.seq #[] 0),#[]⟩
def o266_8 (P:Params):Obj:=⟨.none,none,(.func ⟨x249,x249,L2.defArgs (ht 34),.stmts (L2.defBody (ht 34)),L2.defScope (ht 34),0,[],.none,.none,.none,.none,none,.none,.none,0⟩),#[]⟩
def o267_8 (P:Params):Obj:=⟨(.type "code"),none,(.fields #[(.str x249 581),(.str x249 582),(.str x164 583),(HD.i 126),(HD.i 3),(HD.i 0),(HD.i 0),(HD.i 3),(.ref 262),(.bool true),(HD.i 181),(.ref 263),.none,(.ref 264),(.ref 265),(.ref 266),(HD.i 589),(HD.i 126),(.str x164 590)]),#[]⟩
def o268_8 (P:Params):Obj:=⟨(.type "function"),none,(.func ⟨x249,x249,L2.defArgs (ht 34),.stmts (L2.defBody (ht 34)),L2.defScope (ht 34),3,[],.none,.none,.none,(.str x240 522),none,(.ref 267),.none,0⟩),#[]⟩
def g8:List Stmt:=[ht 24,ht 25,ht 26,ht 27,ht 28,ht 29,ht 30,ht 31,ht 32,ht 33,ht 34]
def T8 (P:Params):BT:=(((((((((((((((((((((((((((((((((((((((((((((((((((((((((((((((((((((T7 P).ins (nat_lit 3) (o3_8 P)).ins (nat_lit 12) (o12_8 P)).ins (nat_lit 203) (o203_8 P)).ins (nat_lit 204) (o204_8 P)).ins (nat_lit 205) (o205_8 P)).ins (nat_lit 206) (o206_8 P)).ins (nat_lit 207) (o207_8 P)).ins (nat_lit 208) (o208_8 P)).ins (nat_lit 209) (o209_8 P)).ins (nat_lit 210) (o210_8 P)).ins (nat_lit 211) (o211_8 P)).ins (nat_lit 212) (o212_8 P)).ins (nat_lit 213) (o213_8 P)).ins (nat_lit 214) (o214_8 P)).ins (nat_lit 215) (o215_8 P)).ins (nat_lit 216) (o216_8 P)).ins (nat_lit 217) (o217_8 P)).ins (nat_lit 218) (o218_8 P)).ins (nat_lit 219) (o219_8 P)).ins (nat_lit 220) (o220_8 P)).ins (nat_lit 221) (o221_8 P)).ins (nat_lit 222) (o222_8 P)).ins (nat_lit 223) (o223_8 P)).ins (nat_lit 224) (o224_8 P)).ins (nat_lit 225) (o225_8 P)).ins (nat_lit 226) (o226_8 P)).ins (nat_lit 227) (o227_8 P)).ins (nat_lit 228) (o228_8 P)).ins (nat_lit 229) (o229_8 P)).ins (nat_lit 230) (o230_8 P)).ins (nat_lit 231) (o231_8 P)).ins (nat_lit 232) (o232_8 P)).ins (nat_lit 233) (o233_8 P)).ins (nat_lit 234) (o234_8 P)).ins (nat_lit 235) (o235_8 P)).ins (nat_lit 236) (o236_8 P)).ins (nat_lit 237) (o237_8 P)).ins (nat_lit 238) (o238_8 P)).ins (nat_lit 239) (o239_8 P)).ins (nat_lit 240) (o240_8 P)).ins (nat_lit 241) (o241_8 P)).ins (nat_lit 242) (o242_8 P)).ins (nat_lit 243) (o243_8 P)).ins (nat_lit 244) (o244_8 P)).ins (nat_lit 245) (o245_8 P)).ins (nat_lit 246) (o246_8 P)).ins (nat_lit 247) (o247_8 P)).ins (nat_lit 248) (o248_8 P)).ins (nat_lit 249) (o249_8 P)).ins (nat_lit 250) (o250_8 P)).ins (nat_lit 251) (o251_8 P)).ins (nat_lit 252) (o252_8 P)).ins (nat_lit 253) (o253_8 P)).ins (nat_lit 254) (o254_8 P)).ins (nat_lit 255) (o255_8 P)).ins (nat_lit 256) (o256_8 P)).ins (nat_lit 257) (o257_8 P)).ins (nat_lit 258) (o258_8 P)).ins (nat_lit 259) (o259_8 P)).ins (nat_lit 260) (o260_8 P)).ins (nat_lit 261) (o261_8 P)).ins (nat_lit 262) (o262_8 P)).ins (nat_lit 263) (o263_8 P)).ins (nat_lit 264) (o264_8 P)).ins (nat_lit 265) (o265_8 P)).ins (nat_lit 266) (o266_8 P)).ins (nat_lit 267) (o267_8 P)).ins (nat_lit 268) (o268_8 P))
def lf8:Life:=⟨[],[],[],0,[],[],false,#[],[],0,false,false,false,(.ofNat 0),[(.ofNat 2000),(.ofNat 10),(.ofNat 10)],false,0,true,[],[],0,false⟩
abbrev S8 (w:World) (os:OsState):SharedT:=⟨T8 w.params,nat_lit 269,lf8,Array.mk [],⟨0,0,0,0⟩,nat_lit 592,os⟩
def q8f (w:World):(OsState→Option (Flow×SharedT×Code×Pos))×(OsState→Option (Flow×SharedT×Code×Pos)):=(fun os=>segRunT treeTable pw (w.withFollow "special-get-raises" false) (nat_lit 11) (some (.ref 6)) (nat_lit 1) (nat_lit 391) (S7 (w.withFollow "special-get-raises" false) os) (piecesOf g8 hE hC ⟨75,0,81,31⟩ hB),fun os=>some (Flow.next,S8 (w.withFollow "special-get-raises" false) os,hC,⟨126,0,131,62⟩))
theorem q8f_eq:(fun w:World=>HD.seg pw (nat_lit 11) (some (.ref 6)) (nat_lit 391) S7 S8 g8 hE hC ⟨75,0,81,31⟩ ⟨126,0,131,62⟩ hB (w.withFollow "special-get-raises" false))=q8f:=by kernel_rfl
name_quick YK278f for q8f by q8f_eq
theorem i8f (w:World):(Fast.YK278f w).1=(Fast.YK278f w).2:=by kernel_rfl
def q8t (w:World):(OsState→Option (Flow×SharedT×Code×Pos))×(OsState→Option (Flow×SharedT×Code×Pos)):=(fun os=>segRunT treeTable pw (w.withFollow "special-get-raises" true) (nat_lit 11) (some (.ref 6)) (nat_lit 1) (nat_lit 391) (S7 (w.withFollow "special-get-raises" true) os) (piecesOf g8 hE hC ⟨75,0,81,31⟩ hB),fun os=>some (Flow.next,S8 (w.withFollow "special-get-raises" true) os,hC,⟨126,0,131,62⟩))
theorem q8t_eq:(fun w:World=>HD.seg pw (nat_lit 11) (some (.ref 6)) (nat_lit 391) S7 S8 g8 hE hC ⟨75,0,81,31⟩ ⟨126,0,131,62⟩ hB (w.withFollow "special-get-raises" true))=q8t:=by kernel_rfl
name_quick YK278t for q8t by q8t_eq
theorem i8t (w:World):(Fast.YK278t w).1=(Fast.YK278t w).2:=by kernel_rfl
theorem h8:HD.Ok (HD.seg pw (nat_lit 11) (some (.ref 6)) (nat_lit 391) S7 S8 g8 hE hC ⟨75,0,81,31⟩ ⟨126,0,131,62⟩ hB):=HD.by2 "special-get-raises" Fast.YK278f_eq Fast.YK278t_eq i8f i8t
def o3_9 (P:Params):Obj:=⟨(.type "dict"),none,(.dict #[⟨(PyData.keyHash P x0),(.str x0 165),(.str x257 630)⟩,⟨(PyData.keyHash P x2),(.str x2 166),.none⟩,⟨(PyData.keyHash P x3),(.str x3 167),.none⟩,⟨(PyData.keyHash P x4),(.str x4 168),(.builtin "__main__.__loader__#opaque")⟩,⟨(PyData.keyHash P x5),(.str x5 169),.none⟩,⟨(PyData.keyHash P x161),(.str x161 170),(.ref 6)⟩,⟨(PyData.keyHash P x162),(.str x162 171),(.ref 4)⟩,⟨(PyData.keyHash P x163),(.str x163 173),(.str x164 172)⟩,⟨(PyData.keyHash P x165),(.str x165 174),.none⟩,⟨(PyData.keyHash P x167),(.str x167 193),(.ref 21)⟩,⟨(PyData.keyHash P x170),(.str x170 220),(.ref 38)⟩,⟨(PyData.keyHash P x179),(.str x179 243),(.ref 58)⟩,⟨(PyData.keyHash P x181),(.str x181 266),(.ref 77)⟩,⟨(PyData.keyHash P x183),(.str x183 289),(.ref 96)⟩,⟨(PyData.keyHash P x185),(.str x185 312),(.ref 115)⟩,⟨(PyData.keyHash P x188),(.str x188 316),(.int (.ofNat 600) 315)⟩,⟨(PyData.keyHash P x189),(.str x189 318),(.int (.ofNat 40) 317)⟩,⟨(PyData.keyHash P x190),(.str x190 320),(.int (.ofNat 99) 319)⟩,⟨(PyData.keyHash P x191),(.str x191 385),(.ref 118)⟩,⟨(PyData.keyHash P x210),(.str x210 401),(.ref 138)⟩,⟨(PyData.keyHash P x211),(.str x211 408),(.ref 145)⟩,⟨(PyData.keyHash P x213),(.str x213 414),(.ref 150)⟩,⟨(PyData.keyHash P x214),(.str x214 421),(.ref 157)⟩,⟨(PyData.keyHash P x216),(.str x216 427),(.ref 162)⟩,⟨(PyData.keyHash P x217),(.str x217 433),(.ref 167)⟩,⟨(PyData.keyHash P x218),(.str x218 440),(.ref 174)⟩,⟨(PyData.keyHash P x219),(.str x219 448),(.ref 181)⟩,⟨(PyData.keyHash P x222),(.str x222 459),(.ref 188)⟩,⟨(PyData.keyHash P x224),(.str x224 469),(.ref 195)⟩,⟨(PyData.keyHash P x227),(.str x227 480),(.ref 202)⟩,⟨(PyData.keyHash P x230),(.str x230 489),(.ref 209)⟩,⟨(PyData.keyHash P x232),(.str x232 497),(.ref 214)⟩,⟨(PyData.keyHash P x233),(.str x233 509),(.ref 221)⟩,⟨(PyData.keyHash P x237),(.str x237 521),(.ref 228)⟩,⟨(PyData.keyHash P x241),(.str x241 552),(.ref 229)⟩,⟨(PyData.keyHash P x242),(.str x242 563),(.ref 247)⟩,⟨(PyData.keyHash P x247),(.str x247 571),(.ref 254)⟩,⟨(PyData.keyHash P x248),(.str x248 580),(.ref 261)⟩,⟨(PyData.keyHash P x249),(.str x249 591),(.ref 268)⟩,⟨(PyData.keyHash P x250),(.str x250 603),(.ref 275)⟩,⟨(PyData.keyHash P x253),(.str x253 617),(.ref 282)⟩,⟨(PyData.keyHash P x256),(.str x256 629),(.ref 289)⟩,⟨(PyData.keyHash P x258),(.str x258 642),(.ref 296)⟩,⟨(PyData.keyHash P x264),(.str x264 649),(.ref 303)⟩,⟨(PyData.keyHash P x266),(.str x266 661),(.ref 310)⟩,⟨(PyData.keyHash P x272),(.str x272 669),(.ref 317)⟩,⟨(PyData.keyHash P x273),(.str x273 677),(.ref 324)⟩,⟨(PyData.keyHash P x275),(.str x275 683),(.ref 329)⟩,⟨(PyData.keyHash P x276),(.str x276 689),(.ref 334)⟩,⟨(PyData.keyHash P x277),(.str x277 698),(.ref 341)⟩,⟨(PyData.keyHash P x280),(.str x280 704),(.ref 346)⟩] 51),#[]⟩
def o12_9 (P:Params):Obj:=⟨.none,none,(.fields #[(HD.i 1),(HD.i 0),(.ref 20),(HD.i 5),(HD.i 0),(.ref 27),(HD.i 9),(HD.i 0),(.ref 47),(HD.i 13),(HD.i 0),(.ref 66),(HD.i 17),(HD.i 0),(.ref 85),(HD.i 21),(HD.i 0),(.ref 104),(HD.i 31),(HD.i 0),(.ref 144),(HD.i 33),(HD.i 0),(.ref 149),(HD.i 45),(HD.i 0),(.ref 156),(HD.i 49),(HD.i 0),(.ref 161),(HD.i 52),(HD.i 0),(.ref 166),(HD.i 56),(HD.i 0),(.ref 173),(HD.i 60),(HD.i 0),(.ref 180),(HD.i 65),(HD.i 0),(.ref 187),(HD.i 70),(HD.i 0),(.ref 194),(HD.i 75),(HD.i 0),(.ref 201),(HD.i 82),(HD.i 0),(.ref 208),(HD.i 85),(HD.i 0),(.ref 213),(HD.i 90),(HD.i 0),(.ref 220),(HD.i 95),(HD.i 0),(.ref 227),(HD.i 104),(HD.i 0),(.ref 246),(HD.i 111),(HD.i 0),(.ref 253),(HD.i 114),(HD.i 0),(.ref 260),(HD.i 126),(HD.i 0),(.ref 267),(HD.i 132),(HD.i 0),(.ref 274),(HD.i 142),(HD.i 0),(.ref 281),(HD.i 153),(HD.i 0),(.ref 288),(HD.i 161),(HD.i 0),(.ref 295),(HD.i 169),(HD.i 0),(.ref 302),(HD.i 173),(HD.i 0),(.ref 309),(HD.i 185),(HD.i 0),(.ref 316),(HD.i 188),(HD.i 0),(.ref 323),(HD.i 192),(HD.i 0),(.ref 328),(HD.i 199),(HD.i 0),(.ref 333),(HD.i 208),(HD.i 0),(.ref 340),(HD.i 219),(HD.i 0),(.ref 345)]),#[]⟩
def o269_9 (P:Params):Obj:=⟨(.type "tuple"),none,(.seq #[] 0),#[]⟩
def o270_9 (P:Params):Obj:=⟨.none,none,(.fields #[]),#[]⟩
def o271_9 (P:Params):Obj:=⟨(.type "tuple"),none,(.seq #[(.str x215 595),(.str x243 596),(.str x246 597),(.str x223 598),(.str x229 599),(.str x251 600)] 0),#[]⟩
def o272_9 (P:Params):Obj:=⟨(.type "tuple"),none,(.seq #[] 0),#[]⟩
def o273_9 (P:Params):Obj:=⟨.none,none,(.func ⟨x250,x250,L2.defArgs (ht 35),.stmts (L2.defBody (ht 35)),L2.defScope (ht 35),0,[],.none,.none,.none,.none,none,.none,.none,0⟩),#[]⟩
def o274_9 (P:Params):Obj:=⟨(.type "code"),none,(.fields #[(.str x250 592),(.str x250 593),(.str x164 594),(HD.i 132),(HD.i 2),(HD.i 0),(HD.i 0),(HD.i 3),(.ref 269),(.bool true),(HD.i 181),(.ref 270),.none,(.ref 271),(.ref 272),(.ref 273),(HD.i 601),(HD.i 132),(.str x164 602)]),#[]⟩
def o275_9 (P:Params):Obj:=⟨(.type "function"),none,(.func ⟨x250,x250,L2.defArgs (ht 35),.stmts (L2.defBody (ht 35)),L2.defScope (ht 35),3,[],.none,.none,.none,(.str x240 522),none,(.ref 274),.none,0⟩),#[]⟩
def o276_9 (P:Params):Obj:=⟨(.type "tuple"),none,(.seq #[] 0),#[]⟩
def o277_9 (P:Params):Obj:=⟨.none,none,(.fields #[]),#[]⟩
def o278_9 (P:Params):Obj:=⟨(.type "tuple"),none,(.seq #[(.str x215 609),(.str x254 610),(.str x243 611),(.str x226 612),(.str x255 613),(.str x251 614)] 0),#[]⟩
def o279_9 (P:Params):Obj:=⟨(.type "tuple"),none,(.seq #[] 0),#[]⟩
def o280_9 (P:Params):Obj:=⟨.none,none,(.func ⟨x253,x253,L2.defArgs (ht 37),.stmts (L2.defBody (ht 37)),L2.defScope (ht 37),0,[],.none,.none,.none,.none,none,.none,.none,0⟩),#[]⟩
def o281_9 (P:Params):Obj:=⟨(.type "code"),none,(.fields #[(.str x253 606),(.str x253 607),(.str x164 608),(HD.i 142),(HD.i 3),(HD.i 0),(HD.i 0),(HD.i 3),(.ref 276),(.bool true),(HD.i 181),(.ref 277),.none,(.ref 278),(.ref 279),(.ref 280),(HD.i 615),(HD.i 142),(.str x164 616)]),#[]⟩
def o282_9 (P:Params):Obj:=⟨(.type "function"),none,(.func ⟨x253,x253,L2.defArgs (ht 37),.stmts (L2.defBody (ht 37)),L2.defScope (ht 37),3,[],.none,.none,.none,(.str x252 604),none,(.ref 281),.none,0⟩),#[]⟩
def o283_9 (P:Params):Obj:=⟨(.type "tuple"),none,(.seq #[] 0),#[]⟩
def o284_9 (P:Params):Obj:=⟨.none,none,(.fields #[]),#[]⟩
def o285_9 (P:Params):Obj:=⟨(.type "tuple"),none,(.seq #[(.str x215 621),(.str x255 622),(.str x243 623),(.str x226 624),(.str x225 625),(.str x246 626)] 0),#[]⟩
def o286_9 (P:Params):Obj:=⟨(.type "tuple"),none,(.seq #[] 0),#[]⟩
def o287_9 (P:Params):Obj:=⟨.none,none,(.func ⟨x256,x256,L2.defArgs (ht 38),.stmts (L2.defBody (ht 38)),L2.defScope (ht 38),0,[],.none,.none,.none,.none,none,.none,.none,0⟩),#[]⟩
def o288_9 (P:Params):Obj:=⟨(.type "code"),none,(.fields #[(.str x256 618),(.str x256 619),(.str x164 620),(HD.i 153),(HD.i 3),(HD.i 0),(HD.i 0),(HD.i 3),(.ref 283),(.bool true),(HD.i 181),(.ref 284),.none,(.ref 285),(.ref 286),(.ref 287),(HD.i 627),(HD.i 153),(.str x164 628)]),#[]⟩
def o289_9 (P:Params):Obj:=⟨(.type "function"),none,(.func ⟨x256,x256,L2.defArgs (ht 38),.stmts (L2.defBody (ht 38)),L2.defScope (ht 38),3,[],.none,.none,.none,(.str x252 604),none,(.ref 288),.none,0⟩),#[]⟩
def o290_9 (P:Params):Obj:=⟨(.type "tuple"),none,(.seq #[] 0),#[]⟩
def o291_9 (P:Params):Obj:=⟨.none,none,(.fields #[]),#[]⟩
def o292_9 (P:Params):Obj:=⟨(.type "tuple"),none,(.seq #[(.str x259 635),(.str x260 636),(.str x261 637),(.str x262 638),(.str x263 639)] 0),#[]⟩
def o293_9 (P:Params):Obj:=⟨(.type "tuple"),none,(.seq #[] 0),#[]⟩
def o294_9 (P:Params):Obj:=⟨.none,none,(.func ⟨x258,x258,L2.defArgs (ht 40),.stmts (L2.defBody (ht 40)),L2.defScope (ht 40),0,[],.none,.none,.none,.none,none,.none,.none,0⟩),#[]⟩
def o295_9 (P:Params):Obj:=⟨(.type "code"),none,(.fields #[(.str x258 632),(.str x258 633),(.str x164 634),(HD.i 161),(HD.i 3),(HD.i 0),(HD.i 0),(HD.i 3),(.ref 290),(.bool true),(HD.i 181),(.ref 291),.none,(.ref 292),(.ref 293),(.ref 294),(HD.i 640),(HD.i 161),(.str x164 641)]),#[]⟩
def o296_9 (P:Params):Obj:=⟨(.type "function"),none,(.func ⟨x258,x258,L2.defArgs (ht 40),.stmts (L2.defBody (ht 40)),L2.defScope (ht 40),3,[],.none,.none,.none,(.str x257 630),none,(.ref 295),.none,0⟩),#[]⟩
def o297_9 (P:Params):Obj:=⟨(.type "tuple"),none,(.seq #[] 0),#[]⟩
def o298_9 (P:Params):Obj:=⟨.none,none,(.fields #[]),#[]⟩
def o299_9 (P:Params):Obj:=⟨(.type "tuple"),none,(.seq #[(.str x265 646)] 0),#[]⟩
def o300_9 (P:Params):Obj:=⟨(.type "tuple"),none,(.seq #[] 0),#[]⟩
def o301_9 (P:Params):Obj:=⟨.none,none,(.func ⟨x264,x264,L2.defArgs (ht 41),.stmts (L2.defBody (ht 41)),L2.defScope (ht 41),0,[],.none,.none,.none,.none,none,.none,.none,0⟩),#[]⟩
def o302_9 (P:Params):Obj:=⟨(.type "code"),none,(.fields #[(.str x264 643),(.str x264 644),(.str x164 645),(HD.i 169),(HD.i 1),(HD.i 0),(HD.i 0),(HD.i 3),(.ref 297),(.bool true),(HD.i 181),(.ref 298),.none,(.ref 299),(.ref 300),(.ref 301),(HD.i 647),(HD.i 169),(.str x164 648)]),#[]⟩
def o303_9 (P:Params):Obj:=⟨(.type "function"),none,(.func ⟨x264,x264,L2.defArgs (ht 41),.stmts (L2.defBody (ht 41)),L2.defScope (ht 41),3,[],.none,.none,.none,(.str x257 630),none,(.ref 302),.none,0⟩),#[]⟩
def o304_9 (P:Params):Obj:=⟨(.type "tuple"),none,(.seq #[] 0),#[]⟩
def o305_9 (P:Params):Obj:=⟨.none,none,(.fields #[]),#[]⟩
def o306_9 (P:Params):Obj:=⟨(.type "tuple"),none,(.seq #[(.str x265 653),(.str x267 654),(.str x268 655),(.str x269 656),(.str x270 657),(.str x271 658)] 0),#[]⟩
def o307_9 (P:Params):Obj:=⟨(.type "tuple"),none,(.seq #[] 0),#[]⟩
def o308_9 (P:Params):Obj:=⟨.none,none,(.func ⟨x266,x266,L2.defArgs (ht 42),.stmts (L2.defBody (ht 42)),L2.defScope (ht 42),0,[],.none,.none,.none,.none,none,.none,.none,0⟩),#[]⟩
def o309_9 (P:Params):Obj:=⟨(.type "code"),none,(.fields #[(.str x266 650),(.str x266 651),(.str x164 652),(HD.i 173),(HD.i 1),(HD.i 0),(HD.i 0),(HD.i 3),(.ref 304),(.bool true),(HD.i 181),(.ref 305),.none,(.ref 306),(.ref 307),(.ref 308),(HD.i 659),(HD.i 173),(.str x164 660)]),#[]⟩
def o310_9 (P:Params):Obj:=⟨(.type "function"),none,(.func ⟨x266,x266,L2.defArgs (ht 42),.stmts (L2.defBody (ht 42)),L2.defScope (ht 42),3,[],.none,.none,.none,(.str x257 630),none,(.ref 309),.none,0⟩),#[]⟩
def o311_9 (P:Params):Obj:=⟨(.type "tuple"),none,(.seq #[] 0),#[]⟩
def o312_9 (P:Params):Obj:=⟨.none,none,(.fields #[]),#[]⟩
def o313_9 (P:Params):Obj:=⟨(.type "tuple"),none,(.seq #[(.str x265 665),(.str x271 666)] 0),#[]⟩
def o314_9 (P:Params):Obj:=⟨(.type "tuple"),none,(.seq #[] 0),#[]⟩
def o315_9 (P:Params):Obj:=⟨.none,none,(.func ⟨x272,x272,L2.defArgs (ht 43),.stmts (L2.defBody (ht 43)),L2.defScope (ht 43),0,[],.none,.none,.none,.none,none,.none,.none,0⟩),#[]⟩
def o316_9 (P:Params):Obj:=⟨(.type "code"),none,(.fields #[(.str x272 662),(.str x272 663),(.str x164 664),(HD.i 185),(HD.i 1),(HD.i 0),(HD.i 0),(HD.i 3),(.ref 311),(.bool true),(HD.i 181),(.ref 312),.none,(.ref 313),(.ref 314),(.ref 315),(HD.i 667),(HD.i 185),(.str x164 668)]),#[]⟩
def o317_9 (P:Params):Obj:=⟨(.type "function"),none,(.func ⟨x272,x272,L2.defArgs (ht 43),.stmts (L2.defBody (ht 43)),L2.defScope (ht 43),3,[],.none,.none,.none,(.str x257 630),none,(.ref 316),.none,0⟩),#[]⟩
def o318_9 (P:Params):Obj:=⟨(.type "tuple"),none,(.seq #[] 0),#[]⟩
def o319_9 (P:Params):Obj:=⟨.none,none,(.fields #[]),#[]⟩
def o320_9 (P:Params):Obj:=⟨(.type "tuple"),none,(.seq #[(.str x265 673),(.str x274 674)] 0),#[]⟩
def o321_9 (P:Params):Obj:=⟨(.type "tuple"),none,(.seq #[] 0),#[]⟩
def o322_9 (P:Params):Obj:=⟨.none,none,(.func ⟨x273,x273,L2.defArgs (ht 44),.stmts (L2.defBody (ht 44)),L2.defScope (ht 44),0,[],.none,.none,.none,.none,none,.none,.none,0⟩),#[]⟩
def o323_9 (P:Params):Obj:=⟨(.type "code"),none,(.fields #[(.str x273 670),(.str x273 671),(.str x164 672),(HD.i 188),(HD.i 2),(HD.i 0),(HD.i 0),(HD.i 3),(.ref 318),(.bool true),(HD.i 181),(.ref 319),.none,(.ref 320),(.ref 321),(.ref 322),(HD.i 675),(HD.i 188),(.str x164 676)]),#[]⟩
def o324_9 (P:Params):Obj:=⟨(.type "function"),none,(.func ⟨x273,x273,L2.defArgs (ht 44),.stmts (L2.defBody (ht 44)),L2.defScope (ht 44),3,[],.none,.none,.none,(.str x257 630),none,(.ref 323),.none,0⟩),#[]⟩
def o325_9 (P:Params):Obj:=⟨(.type "tuple"),none,(.seq #[] 0),#[]⟩
def o326_9 (P:Params):Obj:=⟨.none,none,(.fields #[]),#[]⟩
def o327_9 (P:Params):Obj:=⟨.none,none,(.func ⟨x275,x275,L2.defArgs (ht 45),.stmts (L2.defBody (ht 45)),L2.defScope (ht 45),0,[],.none,.none,.none,.none,none,.none,.none,0⟩),#[]⟩
def o328_9 (P:Params):Obj:=⟨(.type "code"),none,(.fields #[(.str x275 678),(.str x275 679),(.str x164 680),(HD.i 192),(HD.i 3),(HD.i 0),(HD.i 0),(HD.i 3),(.ref 325),(.bool true),(HD.i 181),(.ref 326),.none,.none,.none,(.ref 327),(HD.i 681),(HD.i 192),(.str x164 682)]),#[]⟩
def o329_9 (P:Params):Obj:=⟨(.type "function"),none,(.func ⟨x275,x275,L2.defArgs (ht 45),.stmts (L2.defBody (ht 45)),L2.defScope (ht 45),3,[],.none,.none,.none,(.str x257 630),none,(.ref 328),.none,0⟩),#[]⟩
def o330_9 (P:Params):Obj:=⟨(.type "tuple"),none,(.seq #[] 0),#[]⟩
def o331_9 (P:Params):Obj:=⟨.none,none,(.fields #[]),#[]⟩
def o332_9 (P:Params):Obj:=⟨.none,none,(.func ⟨x276,x276,L2.defArgs (ht 46),.stmts (L2.defBody (ht 46)),L2.defScope (ht 46),0,[],.none,.none,.none,.none,none,.none,.none,0⟩),#[]⟩
def o333_9 (P:Params):Obj:=⟨(.type "code"),none,(.fields #[(.str x276 684),(.str x276 685),(.str x164 686),(HD.i 199),(HD.i 3),(HD.i 0),(HD.i 0),(HD.i 3),(.ref 330),(.bool true),(HD.i 181),(.ref 331),.none,.none,.none,(.ref 332),(HD.i 687),(HD.i 199),(.str x164 688)]),#[]⟩
def o334_9 (P:Params):Obj:=⟨(.type "function"),none,(.func ⟨x276,x276,L2.defArgs (ht 46),.stmts (L2.defBody (ht 46)),L2.defScope (ht 46),3,[],.none,.none,.none,(.str x257 630),none,(.ref 333),.none,0⟩),#[]⟩
def o335_9 (P:Params):Obj:=⟨(.type "tuple"),none,(.seq #[] 0),#[]⟩
def o336_9 (P:Params):Obj:=⟨.none,none,(.fields #[]),#[]⟩
def o337_9 (P:Params):Obj:=⟨(.type "tuple"),none,(.seq #[(.str x278 693),(.str x265 694),(.str x279 695)] 0),#[]⟩
def o338_9 (P:Params):Obj:=⟨(.type "tuple"),none,(.seq #[] 0),#[]⟩
def o339_9 (P:Params):Obj:=⟨.none,none,(.func ⟨x277,x277,L2.defArgs (ht 47),.stmts (L2.defBody (ht 47)),L2.defScope (ht 47),0,[],.none,.none,.none,.none,none,.none,.none,0⟩),#[]⟩
def o340_9 (P:Params):Obj:=⟨(.type "code"),none,(.fields #[(.str x277 690),(.str x277 691),(.str x164 692),(HD.i 208),(HD.i 2),(HD.i 0),(HD.i 0),(HD.i 3),(.ref 335),(.bool true),(HD.i 181),(.ref 336),.none,(.ref 337),(.ref 338),(.ref 339),(HD.i 696),(HD.i 208),(.str x164 697)]),#[]⟩
def o341_9 (P:Params):Obj:=⟨(.type "function"),none,(.func ⟨x277,x277,L2.defArgs (ht 47),.stmts (L2.defBody (ht 47)),L2.defScope (ht 47),3,[],.none,.none,.none,(.str x257 630),none,(.ref 340),.none,0⟩),#[]⟩
def o342_9 (P:Params):Obj:=⟨(.type "tuple"),none,(.seq #[] 0),#[]⟩
def o343_9 (P:Params):Obj:=⟨.none,none,(.fields #[]),#[]⟩
def o344_9 (P:Params):Obj:=⟨.none,none,(.func ⟨x280,x280,L2.defArgs (ht 48),.stmts (L2.defBody (ht 48)),L2.defScope (ht 48),0,[],.none,.none,.none,.none,none,.none,.none,0⟩),#[]⟩
def o345_9 (P:Params):Obj:=⟨(.type "code"),none,(.fields #[(.str x280 699),(.str x280 700),(.str x164 701),(HD.i 219),(HD.i 2),(HD.i 0),(HD.i 0),(HD.i 3),(.ref 342),(.bool true),(HD.i 181),(.ref 343),.none,.none,.none,(.ref 344),(HD.i 702),(HD.i 219),(.str x164 703)]),#[]⟩
def o346_9 (P:Params):Obj:=⟨(.type "function"),none,(.func ⟨x280,x280,L2.defArgs (ht 48),.stmts (L2.defBody (ht 48)),L2.defScope (ht 48),3,[],.none,.none,.none,(.str x257 630),none,(.ref 345),.none,0⟩),#[]⟩
def g9:List Stmt:=[ht 35,ht 36,ht 37,ht 38,ht 39,ht 40,ht 41,ht 42,ht 43,ht 44,ht 45,ht 46,ht 47,ht 48]
def T9 (P:Params):BT:=(((((((((((((((((((((((((((((((((((((((((((((((((((((((((((((((((((((((((((((((((T8 P).ins (nat_lit 3) (o3_9 P)).ins (nat_lit 12) (o12_9 P)).ins (nat_lit 269) (o269_9 P)).ins (nat_lit 270) (o270_9 P)).ins (nat_lit 271) (o271_9 P)).ins (nat_lit 272) (o272_9 P)).ins (nat_lit 273) (o273_9 P)).ins (nat_lit 274) (o274_9 P)).ins (nat_lit 275) (o275_9 P)).ins (nat_lit 276) (o276_9 P)).ins (nat_lit 277) (o277_9 P)).ins (nat_lit 278) (o278_9 P)).ins (nat_lit 279) (o279_9 P)).ins (nat_lit 280) (o280_9 P)).ins (nat_lit 281) (o281_9 P)).ins (nat_lit 282) (o282_9 P)).ins (nat_lit 283) (o283_9 P)).ins (nat_lit 284) (o284_9 P)).ins (nat_lit 285) (o285_9 P)).ins (nat_lit 286) (o286_9 P)).ins (nat_lit 287) (o287_9 P)).ins (nat_lit 288) (o288_9 P)).ins (nat_lit 289) (o289_9 P)).ins (nat_lit 290) (o290_9 P)).ins (nat_lit 291) (o291_9 P)).ins (nat_lit 292) (o292_9 P)).ins (nat_lit 293) (o293_9 P)).ins (nat_lit 294) (o294_9 P)).ins (nat_lit 295) (o295_9 P)).ins (nat_lit 296) (o296_9 P)).ins (nat_lit 297) (o297_9 P)).ins (nat_lit 298) (o298_9 P)).ins (nat_lit 299) (o299_9 P)).ins (nat_lit 300) (o300_9 P)).ins (nat_lit 301) (o301_9 P)).ins (nat_lit 302) (o302_9 P)).ins (nat_lit 303) (o303_9 P)).ins (nat_lit 304) (o304_9 P)).ins (nat_lit 305) (o305_9 P)).ins (nat_lit 306) (o306_9 P)).ins (nat_lit 307) (o307_9 P)).ins (nat_lit 308) (o308_9 P)).ins (nat_lit 309) (o309_9 P)).ins (nat_lit 310) (o310_9 P)).ins (nat_lit 311) (o311_9 P)).ins (nat_lit 312) (o312_9 P)).ins (nat_lit 313) (o313_9 P)).ins (nat_lit 314) (o314_9 P)).ins (nat_lit 315) (o315_9 P)).ins (nat_lit 316) (o316_9 P)).ins (nat_lit 317) (o317_9 P)).ins (nat_lit 318) (o318_9 P)).ins (nat_lit 319) (o319_9 P)).ins (nat_lit 320) (o320_9 P)).ins (nat_lit 321) (o321_9 P)).ins (nat_lit 322) (o322_9 P)).ins (nat_lit 323) (o323_9 P)).ins (nat_lit 324) (o324_9 P)).ins (nat_lit 325) (o325_9 P)).ins (nat_lit 326) (o326_9 P)).ins (nat_lit 327) (o327_9 P)).ins (nat_lit 328) (o328_9 P)).ins (nat_lit 329) (o329_9 P)).ins (nat_lit 330) (o330_9 P)).ins (nat_lit 331) (o331_9 P)).ins (nat_lit 332) (o332_9 P)).ins (nat_lit 333) (o333_9 P)).ins (nat_lit 334) (o334_9 P)).ins (nat_lit 335) (o335_9 P)).ins (nat_lit 336) (o336_9 P)).ins (nat_lit 337) (o337_9 P)).ins (nat_lit 338) (o338_9 P)).ins (nat_lit 339) (o339_9 P)).ins (nat_lit 340) (o340_9 P)).ins (nat_lit 341) (o341_9 P)).ins (nat_lit 342) (o342_9 P)).ins (nat_lit 343) (o343_9 P)).ins (nat_lit 344) (o344_9 P)).ins (nat_lit 345) (o345_9 P)).ins (nat_lit 346) (o346_9 P))
def lf9:Life:=⟨[],[],[],0,[],[],false,#[],[],0,false,false,false,(.ofNat 0),[(.ofNat 2000),(.ofNat 10),(.ofNat 10)],false,0,true,[],[],0,false⟩
abbrev S9 (w:World) (os:OsState):SharedT:=⟨T9 w.params,nat_lit 347,lf9,Array.mk [],⟨0,0,0,0⟩,nat_lit 705,os⟩
def q9 (w:World):(OsState→Option (Flow×SharedT×Code×Pos))×(OsState→Option (Flow×SharedT×Code×Pos)):=(fun os=>segRunT treeTable pw w (nat_lit 11) (some (.ref 6)) (nat_lit 1) (nat_lit 386) (S8 w os) (piecesOf g9 hE hC ⟨126,0,131,62⟩ hB),fun os=>some (Flow.next,S9 w os,hC,⟨219,0,231,20⟩))
theorem q9_eq:HD.seg pw (nat_lit 11) (some (.ref 6)) (nat_lit 386) S8 S9 g9 hE hC ⟨126,0,131,62⟩ ⟨219,0,231,20⟩ hB=q9:=by kernel_rfl
name_quick YK279 for q9 by q9_eq
theorem i9 (w:World):(Fast.YK279 w).1=(Fast.YK279 w).2:=by kernel_rfl
theorem h9:HD.Ok (HD.seg pw (nat_lit 11) (some (.ref 6)) (nat_lit 386) S8 S9 g9 hE hC ⟨126,0,131,62⟩ ⟨219,0,231,20⟩ hB):=HD.by1 Fast.YK279_eq i9
def o3_10 (P:Params):Obj:=⟨(.type "dict"),none,(.dict #[⟨(PyData.keyHash P x0),(.str x0 165),(.str x257 630)⟩,⟨(PyData.keyHash P x2),(.str x2 166),.none⟩,⟨(PyData.keyHash P x3),(.str x3 167),.none⟩,⟨(PyData.keyHash P x4),(.str x4 168),(.builtin "__main__.__loader__#opaque")⟩,⟨(PyData.keyHash P x5),(.str x5 169),.none⟩,⟨(PyData.keyHash P x161),(.str x161 170),(.ref 6)⟩,⟨(PyData.keyHash P x162),(.str x162 171),(.ref 4)⟩,⟨(PyData.keyHash P x163),(.str x163 173),(.str x164 172)⟩,⟨(PyData.keyHash P x165),(.str x165 174),.none⟩,⟨(PyData.keyHash P x167),(.str x167 193),(.ref 21)⟩,⟨(PyData.keyHash P x170),(.str x170 220),(.ref 38)⟩,⟨(PyData.keyHash P x179),(.str x179 243),(.ref 58)⟩,⟨(PyData.keyHash P x181),(.str x181 266),(.ref 77)⟩,⟨(PyData.keyHash P x183),(.str x183 289),(.ref 96)⟩,⟨(PyData.keyHash P x185),(.str x185 312),(.ref 115)⟩,⟨(PyData.keyHash P x188),(.str x188 316),(.int (.ofNat 600) 315)⟩,⟨(PyData.keyHash P x189),(.str x189 318),(.int (.ofNat 40) 317)⟩,⟨(PyData.keyHash P x190),(.str x190 320),(.int (.ofNat 99) 319)⟩,⟨(PyData.keyHash P x191),(.str x191 385),(.ref 118)⟩,⟨(PyData.keyHash P x210),(.str x210 401),(.ref 138)⟩,⟨(PyData.keyHash P x211),(.str x211 408),(.ref 145)⟩,⟨(PyData.keyHash P x213),(.str x213 414),(.ref 150)⟩,⟨(PyData.keyHash P x214),(.str x214 421),(.ref 157)⟩,⟨(PyData.keyHash P x216),(.str x216 427),(.ref 162)⟩,⟨(PyData.keyHash P x217),(.str x217 433),(.ref 167)⟩,⟨(PyData.keyHash P x218),(.str x218 440),(.ref 174)⟩,⟨(PyData.keyHash P x219),(.str x219 448),(.ref 181)⟩,⟨(PyData.keyHash P x222),(.str x222 459),(.ref 188)⟩,⟨(PyData.keyHash P x224),(.str x224 469),(.ref 195)⟩,⟨(PyData.keyHash P x227),(.str x227 480),(.ref 202)⟩,⟨(PyData.keyHash P x230),(.str x230 489),(.ref 209)⟩,⟨(PyData.keyHash P x232),(.str x232 497),(.ref 214)⟩,⟨(PyData.keyHash P x233),(.str x233 509),(.ref 221)⟩,⟨(PyData.keyHash P x237),(.str x237 521),(.ref 228)⟩,⟨(PyData.keyHash P x241),(.str x241 552),(.ref 229)⟩,⟨(PyData.keyHash P x242),(.str x242 563),(.ref 247)⟩,⟨(PyData.keyHash P x247),(.str x247 571),(.ref 254)⟩,⟨(PyData.keyHash P x248),(.str x248 580),(.ref 261)⟩,⟨(PyData.keyHash P x249),(.str x249 591),(.ref 268)⟩,⟨(PyData.keyHash P x250),(.str x250 603),(.ref 275)⟩,⟨(PyData.keyHash P x253),(.str x253 617),(.ref 282)⟩,⟨(PyData.keyHash P x256),(.str x256 629),(.ref 289)⟩,⟨(PyData.keyHash P x258),(.str x258 642),(.ref 296)⟩,⟨(PyData.keyHash P x264),(.str x264 649),(.ref 303)⟩,⟨(PyData.keyHash P x266),(.str x266 661),(.ref 310)⟩,⟨(PyData.keyHash P x272),(.str x272 669),(.ref 317)⟩,⟨(PyData.keyHash P x273),(.str x273 677),(.ref 324)⟩,⟨(PyData.keyHash P x275),(.str x275 683),(.ref 329)⟩,⟨(PyData.keyHash P x276),(.str x276 689),(.ref 334)⟩,⟨(PyData.keyHash P x277),(.str x277 698),(.ref 341)⟩,⟨(PyData.keyHash P x280),(.str x280 704),(.ref 346)⟩,⟨(PyData.keyHash P x281),(.str x281 713),(.ref 353)⟩,⟨(PyData.keyHash P x283),(.str x283 721),(.ref 360)⟩,⟨(PyData.keyHash P x284),(.str x284 735),(.ref 367)⟩] 54),#[]⟩
def o12_10 (P:Params):Obj:=⟨.none,none,(.fields #[(HD.i 1),(HD.i 0),(.ref 20),(HD.i 5),(HD.i 0),(.ref 27),(HD.i 9),(HD.i 0),(.ref 47),(HD.i 13),(HD.i 0),(.ref 66),(HD.i 17),(HD.i 0),(.ref 85),(HD.i 21),(HD.i 0),(.ref 104),(HD.i 31),(HD.i 0),(.ref 144),(HD.i 33),(HD.i 0),(.ref 149),(HD.i 45),(HD.i 0),(.ref 156),(HD.i 49),(HD.i 0),(.ref 161),(HD.i 52),(HD.i 0),(.ref 166),(HD.i 56),(HD.i 0),(.ref 173),(HD.i 60),(HD.i 0),(.ref 180),(HD.i 65),(HD.i 0),(.ref 187),(HD.i 70),(HD.i 0),(.ref 194),(HD.i 75),(HD.i 0),(.ref 201),(HD.i 82),(HD.i 0),(.ref 208),(HD.i 85),(HD.i 0),(.ref 213),(HD.i 90),(HD.i 0),(.ref 220),(HD.i 95),(HD.i 0),(.ref 227),(HD.i 104),(HD.i 0),(.ref 246),(HD.i 111),(HD.i 0),(.ref 253),(HD.i 114),(HD.i 0),(.ref 260),(HD.i 126),(HD.i 0),(.ref 267),(HD.i 132),(HD.i 0),(.ref 274),(HD.i 142),(HD.i 0),(.ref 281),(HD.i 153),(HD.i 0),(.ref 288),(HD.i 161),(HD.i 0),(.ref 295),(HD.i 169),(HD.i 0),(.ref 302),(HD.i 173),(HD.i 0),(.ref 309),(HD.i 185),(HD.i 0),(.ref 316),(HD.i 188),(HD.i 0),(.ref 323),(HD.i 192),(HD.i 0),(.ref 328),(HD.i 199),(HD.i 0),(.ref 333),(HD.i 208),(HD.i 0),(.ref 340),(HD.i 219),(HD.i 0),(.ref 345),(HD.i 232),(HD.i 0),(.ref 352),(HD.i 239),(HD.i 0),(.ref 359),(HD.i 246),(HD.i 0),(.ref 366)]),#[]⟩
def o347_10 (P:Params):Obj:=⟨(.type "tuple"),none,(.seq #[] 0),#[]⟩
def o348_10 (P:Params):Obj:=⟨.none,none,(.fields #[]),#[]⟩
def o349_10 (P:Params):Obj:=⟨(.type "tuple"),none,(.seq #[(.str x278 708),(.str x265 709),(.str x282 710)] 0),#[]⟩
def o350_10 (P:Params):Obj:=⟨(.type "tuple"),none,(.seq #[] 0),#[]⟩
def o351_10 (P:Params):Obj:=⟨.none,none,(.func ⟨x281,x281,L2.defArgs (ht 49),.stmts (L2.defBody (ht 49)),L2.defScope (ht 49),0,[],.none,.none,.none,.none,none,.none,.none,0⟩),#[]⟩
def o352_10 (P:Params):Obj:=⟨(.type "code"),none,(.fields #[(.str x281 705),(.str x281 706),(.str x164 707),(HD.i 232),(HD.i 3),(HD.i 0),(HD.i 0),(HD.i 3),(.ref 347),(.bool true),(HD.i 181),(.ref 348),.none,(.ref 349),(.ref 350),(.ref 351),(HD.i 711),(HD.i 232),(.str x164 712)]),#[]⟩
def o353_10 (P:Params):Obj:=⟨(.type "function"),none,(.func ⟨x281,x281,L2.defArgs (ht 49),.stmts (L2.defBody (ht 49)),L2.defScope (ht 49),3,[],.none,.none,.none,(.str x257 630),none,(.ref 352),.none,0⟩),#[]⟩
def o354_10 (P:Params):Obj:=⟨(.type "tuple"),none,(.seq #[] 0),#[]⟩
def o355_10 (P:Params):Obj:=⟨.none,none,(.fields #[]),#[]⟩
def o356_10 (P:Params):Obj:=⟨(.type "tuple"),none,(.seq #[(.str x265 717),(.str x282 718)] 0),#[]⟩
def o357_10 (P:Params):Obj:=⟨(.type "tuple"),none,(.seq #[] 0),#[]⟩
def o358_10 (P:Params):Obj:=⟨.none,none,(.func ⟨x283,x283,L2.defArgs (ht 50),.stmts (L2.defBody (ht 50)),L2.defScope (ht 50),0,[],.none,.none,.none,.none,none,.none,.none,0⟩),#[]⟩
def o359_10 (P:Params):Obj:=⟨(.type "code"),none,(.fields #[(.str x283 714),(.str x283 715),(.str x164 716),(HD.i 239),(HD.i 2),(HD.i 0),(HD.i 0),(HD.i 3),(.ref 354),(.bool true),(HD.i 181),(.ref 355),.none,(.ref 356),(.ref 357),(.ref 358),(HD.i 719),(HD.i 239),(.str x164 720)]),#[]⟩
def o360_10 (P:Params):Obj:=⟨(.type "function"),none,(.func ⟨x283,x283,L2.defArgs (ht 50),.stmts (L2.defBody (ht 50)),L2.defScope (ht 50),3,[],.none,.none,.none,(.str x257 630),none,(.ref 359),.none,0⟩),#[]⟩
def o361_10 (P:Params):Obj:=⟨(.type "tuple"),none,(.seq #[] 0),#[]⟩
def o362_10 (P:Params):Obj:=⟨.none,none,(.fields #[]),#[]⟩
def o363_10 (P:Params):Obj:=⟨(.type "tuple"),none,(.seq #[(.str x259 725),(.str x260 726),(.str x285 727),(.str x286 728),(.str x282 729),(.str x265 730),(.str x287 731),(.str x278 732)] 0),#[]⟩
def o364_10 (P:Params):Obj:=⟨(.type "tuple"),none,(.seq #[] 0),#[]⟩
def o365_10 (P:Params):Obj:=⟨.none,none,(.func ⟨x284,x284,L2.defArgs (ht 51),.stmts (L2.defBody (ht 51)),L2.defScope (ht 51),0,[],.none,.none,.none,.none,none,.none,.none,0⟩),#[]⟩
def o366_10 (P:Params):Obj:=⟨(.type "code"),none,(.fields #[(.str x284 722),(.str x284 723),(.str x164 724),(HD.i 246),(HD.i 1),(HD.i 0),(HD.i 0),(HD.i 3),(.ref 361),(.bool true),(HD.i 181),(.ref 362),.none,(.ref 363),(.ref 364),(.ref 365),(HD.i 733),(HD.i 246),(.str x164 734)]),#[]⟩
def o367_10 (P:Params):Obj:=⟨(.type "function"),none,(.func ⟨x284,x284,L2.defArgs (ht 51),.stmts (L2.defBody (ht 51)),L2.defScope (ht 51),3,[],.none,.none,.none,(.str x257 630),none,(.ref 366),.none,0⟩),#[]⟩
def g10:List Stmt:=[ht 49,ht 50,ht 51]
def T10 (P:Params):BT:=((((((((((((((((((((((((T9 P).ins (nat_lit 3) (o3_10 P)).ins (nat_lit 12) (o12_10 P)).ins (nat_lit 347) (o347_10 P)).ins (nat_lit 348) (o348_10 P)).ins (nat_lit 349) (o349_10 P)).ins (nat_lit 350) (o350_10 P)).ins (nat_lit 351) (o351_10 P)).ins (nat_lit 352) (o352_10 P)).ins (nat_lit 353) (o353_10 P)).ins (nat_lit 354) (o354_10 P)).ins (nat_lit 355) (o355_10 P)).ins (nat_lit 356) (o356_10 P)).ins (nat_lit 357) (o357_10 P)).ins (nat_lit 358) (o358_10 P)).ins (nat_lit 359) (o359_10 P)).ins (nat_lit 360) (o360_10 P)).ins (nat_lit 361) (o361_10 P)).ins (nat_lit 362) (o362_10 P)).ins (nat_lit 363) (o363_10 P)).ins (nat_lit 364) (o364_10 P)).ins (nat_lit 365) (o365_10 P)).ins (nat_lit 366) (o366_10 P)).ins (nat_lit 367) (o367_10 P))
def lf10:Life:=⟨[],[],[],0,[],[],false,#[],[],0,false,false,false,(.ofNat 0),[(.ofNat 2000),(.ofNat 10),(.ofNat 10)],false,0,true,[],[],0,false⟩
abbrev S10 (w:World) (os:OsState):SharedT:=⟨T10 w.params,nat_lit 368,lf10,Array.mk [],⟨0,0,0,0⟩,nat_lit 736,os⟩
def q10 (w:World):(OsState→Option (Flow×SharedT×Code×Pos))×(OsState→Option (Flow×SharedT×Code×Pos)):=(fun os=>segRunT treeTable pw w (nat_lit 11) (some (.ref 6)) (nat_lit 1) (nat_lit 98) (S9 w os) (piecesOf g10 hE hC ⟨219,0,231,20⟩ hB),fun os=>some (Flow.next,S10 w os,hC,⟨246,0,267,59⟩))
theorem q10_eq:HD.seg pw (nat_lit 11) (some (.ref 6)) (nat_lit 98) S9 S10 g10 hE hC ⟨219,0,231,20⟩ ⟨246,0,267,59⟩ hB=q10:=by kernel_rfl
name_quick YK2710 for q10 by q10_eq
theorem i10 (w:World):(Fast.YK2710 w).1=(Fast.YK2710 w).2:=by kernel_rfl
theorem h10:HD.Ok (HD.seg pw (nat_lit 11) (some (.ref 6)) (nat_lit 98) S9 S10 g10 hE hC ⟨219,0,231,20⟩ ⟨246,0,267,59⟩ hB):=HD.by1 Fast.YK2710_eq i10
def Hf_0 (P:Params) (r:List (Obj)):List (Obj):=PySem.W.boot_o_0 P::PySem.W.boot_o_1 P::PySem.W.boot_o_2 P::o3_10 P::PySem.W.boot_o_4 P::PySem.W.boot_o_5 P::PySem.W.boot_o_6 P::PySem.W.boot_o_7 P::PySem.W.boot_o_8 P::PySem.W.boot_o_9 P::PySem.W.boot_o_10 P::o11_a P::r
def Hf_1 (P:Params) (r:List (Obj)):List (Obj):=o12_10 P::o13_a P::o14_a P::o15_1 P::o16_1 P::o17_1 P::o18_1 P::o19_1 P::o20_1 P::o21_1 P::o22_1 P::o23_1 P::r
def Hf_2 (P:Params) (r:List (Obj)):List (Obj):=o24_1 P::o25_1 P::o26_1 P::o27_1 P::o28_1 P::o29_1 P::o30_1 P::o31_1 P::o32_1 P::o33_1 P::o34_1 P::o35_1 P::r
def Hf_3 (P:Params) (r:List (Obj)):List (Obj):=o36_1 P::o37_1 P::o38_5 P::o39_1 P::o40_1 P::o41_1 P::o42_2 P::o43_2 P::o44_2 P::o45_2 P::o46_2 P::o47_2 P::r
def Hf_4 (P:Params) (r:List (Obj)):List (Obj):=o48_2 P::o49_2 P::o50_2 P::o51_2 P::o52_2 P::o53_2 P::o54_2 P::o55_2 P::o56_2 P::o57_2 P::o58_2 P::o59_2 P::r
def Hf_5 (P:Params) (r:List (Obj)):List (Obj):=o60_2 P::o61_3 P::o62_3 P::o63_3 P::o64_3 P::o65_3 P::o66_3 P::o67_3 P::o68_3 P::o69_3 P::o70_3 P::o71_3 P::r
def Hf_6 (P:Params) (r:List (Obj)):List (Obj):=o72_3 P::o73_3 P::o74_3 P::o75_3 P::o76_3 P::o77_3 P::o78_3 P::o79_3 P::o80_4 P::o81_4 P::o82_4 P::o83_4 P::r
def Hf_7 (P:Params) (r:List (Obj)):List (Obj):=o84_4 P::o85_4 P::o86_4 P::o87_4 P::o88_4 P::o89_4 P::o90_4 P::o91_4 P::o92_4 P::o93_4 P::o94_4 P::o95_4 P::r
def Hf_8 (P:Params) (r:List (Obj)):List (Obj):=o96_4 P::o97_4 P::o98_4 P::o99_5 P::o100_5 P::o101_5 P::o102_5 P::o103_5 P::o104_5 P::o105_5 P::o106_5 P::o107_5 P::r
def Hf_9 (P:Params) (r:List (Obj)):List (Obj):=o108_5 P::o109_5 P::o110_5 P::o111_5 P::o112_5 P::o113_5 P::o114_5 P::o115_5 P::o116_5 P::o117_5 P::o118_6 P::o119_6 P::r
def Hf_10 (P:Params) (r:List (Obj)):List (Obj):=o120_6 P::o121_6 P::o122_6 P::o123_6 P::o124_6 P::o125_6 P::o126_6 P::o127_6 P::o128_6 P::o129_6 P::o130_6 P::o131_6 P::r
def Hf_11 (P:Params) (r:List (Obj)):List (Obj):=o132_6 P::o133_6 P::o134_6 P::o135_6 P::o136_6 P::o137_6 P::o138_7 P::o139_7 P::o140_7 P::o141_7 P::o142_7 P::o143_7 P::r
def Hf_12 (P:Params) (r:List (Obj)):List (Obj):=o144_7 P::o145_7 P::o146_7 P::o147_7 P::o148_7 P::o149_7 P::o150_7 P::o151_7 P::o152_7 P::o153_7 P::o154_7 P::o155_7 P::r
def Hf_13 (P:Params) (r:List (Obj)):List (Obj):=o156_7 P::o157_7 P::o158_7 P::o159_7 P::o160_7 P::o161_7 P::o162_7 P::o163_7 P::o164_7 P::o165_7 P::o166_7 P::o167_7 P::r
def Hf_14 (P:Params) (r:List (Obj)):List (Obj):=o168_7 P::o169_7 P::o170_7 P::o171_7 P::o172_7 P::o173_7 P::o174_7 P::o175_7 P::o176_7 P::o177_7 P::o178_7 P::o179_7 P::r
def Hf_15 (P:Params) (r:List (Obj)):List (Obj):=o180_7 P::o181_7 P::o182_7 P::o183_7 P::o184_7 P::o185_7 P::o186_7 P::o187_7 P::o188_7 P::o189_7 P::o190_7 P::o191_7 P::r
def Hf_16 (P:Params) (r:List (Obj)):List (Obj):=o192_7 P::o193_7 P::o194_7 P::o195_7 P::o196_7 P::o197_7 P::o198_7 P::o199_7 P::o200_7 P::o201_7 P::o202_7 P::o203_8 P::r
def Hf_17 (P:Params) (r:List (Obj)):List (Obj):=o204_8 P::o205_8 P::o206_8 P::o207_8 P::o208_8 P::o209_8 P::o210_8 P::o211_8 P::o212_8 P::o213_8 P::o214_8 P::o215_8 P::r
def Hf_18 (P:Params) (r:List (Obj)):List (Obj):=o216_8 P::o217_8 P::o218_8 P::o219_8 P::o220_8 P::o221_8 P::o222_8 P::o223_8 P::o224_8 P::o225_8 P::o226_8 P::o227_8 P::r
def Hf_19 (P:Params) (r:List (Obj)):List (Obj):=o228_8 P::o229_8 P::o230_8 P::o231_8 P::o232_8 P::o233_8 P::o234_8 P::o235_8 P::o236_8 P::o237_8 P::o238_8 P::o239_8 P::r
def Hf_20 (P:Params) (r:List (Obj)):List (Obj):=o240_8 P::o241_8 P::o242_8 P::o243_8 P::o244_8 P::o245_8 P::o246_8 P::o247_8 P::o248_8 P::o249_8 P::o250_8 P::o251_8 P::r
def Hf_21 (P:Params) (r:List (Obj)):List (Obj):=o252_8 P::o253_8 P::o254_8 P::o255_8 P::o256_8 P::o257_8 P::o258_8 P::o259_8 P::o260_8 P::o261_8 P::o262_8 P::o263_8 P::r
def Hf_22 (P:Params) (r:List (Obj)):List (Obj):=o264_8 P::o265_8 P::o266_8 P::o267_8 P::o268_8 P::o269_9 P::o270_9 P::o271_9 P::o272_9 P::o273_9 P::o274_9 P::o275_9 P::r
def Hf_23 (P:Params) (r:List (Obj)):List (Obj):=o276_9 P::o277_9 P::o278_9 P::o279_9 P::o280_9 P::o281_9 P::o282_9 P::o283_9 P::o284_9 P::o285_9 P::o286_9 P::o287_9 P::r
def Hf_24 (P:Params) (r:List (Obj)):List (Obj):=o288_9 P::o289_9 P::o290_9 P::o291_9 P::o292_9 P::o293_9 P::o294_9 P::o295_9 P::o296_9 P::o297_9 P::o298_9 P::o299_9 P::r
def Hf_25 (P:Params) (r:List (Obj)):List (Obj):=o300_9 P::o301_9 P::o302_9 P::o303_9 P::o304_9 P::o305_9 P::o306_9 P::o307_9 P::o308_9 P::o309_9 P::o310_9 P::o311_9 P::r
def Hf_26 (P:Params) (r:List (Obj)):List (Obj):=o312_9 P::o313_9 P::o314_9 P::o315_9 P::o316_9 P::o317_9 P::o318_9 P::o319_9 P::o320_9 P::o321_9 P::o322_9 P::o323_9 P::r
def Hf_27 (P:Params) (r:List (Obj)):List (Obj):=o324_9 P::o325_9 P::o326_9 P::o327_9 P::o328_9 P::o329_9 P::o330_9 P::o331_9 P::o332_9 P::o333_9 P::o334_9 P::o335_9 P::r
def Hf_28 (P:Params) (r:List (Obj)):List (Obj):=o336_9 P::o337_9 P::o338_9 P::o339_9 P::o340_9 P::o341_9 P::o342_9 P::o343_9 P::o344_9 P::o345_9 P::o346_9 P::o347_10 P::r
def Hf_29 (P:Params) (r:List (Obj)):List (Obj):=o348_10 P::o349_10 P::o350_10 P::o351_10 P::o352_10 P::o353_10 P::o354_10 P::o355_10 P::o356_10 P::o357_10 P::o358_10 P::o359_10 P::r
def Hf_30 (P:Params) (r:List (Obj)):List (Obj):=o360_10 P::o361_10 P::o362_10 P::o363_10 P::o364_10 P::o365_10 P::o366_10 P::o367_10 P::r
def Hf (P:Params):Heap:=⟨Array.mk (Hf_0 P (Hf_1 P (Hf_2 P (Hf_3 P (Hf_4 P (Hf_5 P (Hf_6 P (Hf_7 P (Hf_8 P (Hf_9 P (Hf_10 P (Hf_11 P (Hf_12 P (Hf_13 P (Hf_14 P (Hf_15 P (Hf_16 P (Hf_17 P (Hf_18 P (Hf_19 P (Hf_20 P (Hf_21 P (Hf_22 P (Hf_23 P (Hf_24 P (Hf_25 P (Hf_26 P (Hf_27 P (Hf_28 P (Hf_29 P (Hf_30 P []))))))))))))))))))))))))))))))),⟨[],[],[],0,[],[],false,#[],[],0,false,false,false,(.ofNat 0),[(.ofNat 2000),(.ofNat 10),(.ofNat 10)],false,0,true,[],[],0,false⟩⟩
def df:Drawn:=⟨0,0,0,0⟩
def kf:Nat:=nat_lit 736
abbrev Sf:World→OsState→Shared:=HD.mkS Hf df kf
def qz (w:World):(OsState→Option Shared)×(OsState→Option Shared):=(fun os=>topRun treeTable pw w (nat_lit 11) (some (.ref 6)) (nat_lit 2) (S10 w os).abs (Thread.mk (doneF Flow.next) hC ⟨246,0,267,59⟩ hB),fun os=>some (Sf w os))
theorem qz_eq:HD.fin pw (nat_lit 11) (some (.ref 6)) (nat_lit 2) S10 Sf (Thread.mk (doneF Flow.next) hC ⟨246,0,267,59⟩ hB)=qz:=by kernel_rfl
name_quick YK27z for qz by qz_eq
theorem iz (w:World):(Fast.YK27z w).1=(Fast.YK27z w).2:=by kernel_rfl
theorem hz:HD.Ok (HD.fin pw (nat_lit 11) (some (.ref 6)) (nat_lit 2) S10 Sf (Thread.mk (doneF Flow.next) hC ⟨246,0,267,59⟩ hB)):=HD.by1 Fast.YK27z_eq iz
theorem hsp:behindTheImports pw=(g1++(g2++(g3++(g4++(g5++(g6++(g7++(g8++(g9++(g10++([]:List Stmt))))))))))):=by kernel_rfl
theorem hrun:HD.Goes pw (nat_lit 11) (some (.ref 6)) Sf (nat_lit 12+(nat_lit 1+(nat_lit 255+(nat_lit 244+(nat_lit 244+(nat_lit 244+(nat_lit 280+(nat_lit 340+(nat_lit 386+(nat_lit 391+(nat_lit 386+(nat_lit 98+(nat_lit 2))))))))))))) S0 (topStub pw):=HD.g_pre ha (HD.g_blk hsp hb (HD.g_seg h1 (HD.g_seg h2 (HD.g_seg h3 (HD.g_seg h4 (HD.g_seg h5 (HD.g_seg h6 (HD.g_seg h7 (HD.g_seg h8 (HD.g_seg h9 (HD.g_seg h10 (HD.g_fin (env:=hE) hz))))))))))))
def hq:Program:=HD.view pw [ht 0,ht 2,ht 3,ht 4,ht 5,ht 6,ht 8,ht 9,ht 10,ht 11,ht 12,ht 13,ht 14,ht 15,ht 16,ht 17,ht 18,ht 19,ht 21,ht 22,ht 23,ht 24,ht 26,ht 27,ht 28,ht 30,ht 31,ht 32,ht 33,ht 34,ht 35,ht 37,ht 38,ht 40,ht 41,ht 42,ht 43,ht 44,ht 45,ht 46,ht 47,ht 48,ht 49,ht 50,ht 51]
def hl:List Str:=[PySem.Str.ofString "KIDS_DUE",PySem.Str.ofString "BINDER_OVER",PySem.Str.ofString "RULES"]
def hK_0 (P:Params) (r:List (Addr×Obj)):List (Addr×Obj):=(nat_lit 2,PySem.W.boot_o_2 P)::(nat_lit 3,o3_10 P)::(nat_lit 15,o15_1 P)::(nat_lit 17,o17_1 P)::(nat_lit 18,o18_1 P)::(nat_lit 20,o20_1 P)::(nat_lit 21,o21_1 P)::(nat_lit 22,o22_1 P)::(nat_lit 29,o29_1 P)::(nat_lit 31,o31_1 P)::(nat_lit 32,o32_1 P)::(nat_lit 34,o34_1 P)::r
def hK_1 (P:Params) (r:List (Addr×Obj)):List (Addr×Obj):=(nat_lit 35,o35_1 P)::(nat_lit 36,o36_1 P)::(nat_lit 37,o37_1 P)::(nat_lit 38,o38_5 P)::(nat_lit 39,o39_1 P)::(nat_lit 42,o42_2 P)::(nat_lit 49,o49_2 P)::(nat_lit 51,o51_2 P)::(nat_lit 52,o52_2 P)::(nat_lit 54,o54_2 P)::(nat_lit 55,o55_2 P)::(nat_lit 56,o56_2 P)::r
def hK_2 (P:Params) (r:List (Addr×Obj)):List (Addr×Obj):=(nat_lit 57,o57_2 P)::(nat_lit 58,o58_2 P)::(nat_lit 61,o61_3 P)::(nat_lit 68,o68_3 P)::(nat_lit 70,o70_3 P)::(nat_lit 71,o71_3 P)::(nat_lit 73,o73_3 P)::(nat_lit 74,o74_3 P)::(nat_lit 75,o75_3 P)::(nat_lit 76,o76_3 P)::(nat_lit 77,o77_3 P)::(nat_lit 80,o80_4 P)::r
def hK_3 (P:Params) (r:List (Addr×Obj)):List (Addr×Obj):=(nat_lit 87,o87_4 P)::(nat_lit 89,o89_4 P)::(nat_lit 90,o90_4 P)::(nat_lit 92,o92_4 P)::(nat_lit 93,o93_4 P)::(nat_lit 94,o94_4 P)::(nat_lit 95,o95_4 P)::(nat_lit 96,o96_4 P)::(nat_lit 99,o99_5 P)::(nat_lit 106,o106_5 P)::(nat_lit 108,o108_5 P)::(nat_lit 109,o109_5 P)::r
def hK_4 (P:Params) (r:List (Addr×Obj)):List (Addr×Obj):=(nat_lit 111,o111_5 P)::(nat_lit 112,o112_5 P)::(nat_lit 113,o113_5 P)::(nat_lit 114,o114_5 P)::(nat_lit 115,o115_5 P)::(nat_lit 118,o118_6 P)::(nat_lit 119,o119_6 P)::(nat_lit 120,o120_6 P)::(nat_lit 121,o121_6 P)::(nat_lit 122,o122_6 P)::(nat_lit 123,o123_6 P)::(nat_lit 124,o124_6 P)::r
def hK_5 (P:Params) (r:List (Addr×Obj)):List (Addr×Obj):=(nat_lit 125,o125_6 P)::(nat_lit 126,o126_6 P)::(nat_lit 127,o127_6 P)::(nat_lit 128,o128_6 P)::(nat_lit 129,o129_6 P)::(nat_lit 130,o130_6 P)::(nat_lit 131,o131_6 P)::(nat_lit 132,o132_6 P)::(nat_lit 133,o133_6 P)::(nat_lit 134,o134_6 P)::(nat_lit 135,o135_6 P)::(nat_lit 137,o137_6 P)::r
def hK_6 (P:Params) (r:List (Addr×Obj)):List (Addr×Obj):=(nat_lit 138,o138_7 P)::(nat_lit 139,o139_7 P)::(nat_lit 141,o141_7 P)::(nat_lit 142,o142_7 P)::(nat_lit 144,o144_7 P)::(nat_lit 145,o145_7 P)::(nat_lit 146,o146_7 P)::(nat_lit 149,o149_7 P)::(nat_lit 150,o150_7 P)::(nat_lit 151,o151_7 P)::(nat_lit 153,o153_7 P)::(nat_lit 154,o154_7 P)::r
def hK_7 (P:Params) (r:List (Addr×Obj)):List (Addr×Obj):=(nat_lit 156,o156_7 P)::(nat_lit 157,o157_7 P)::(nat_lit 158,o158_7 P)::(nat_lit 161,o161_7 P)::(nat_lit 162,o162_7 P)::(nat_lit 163,o163_7 P)::(nat_lit 166,o166_7 P)::(nat_lit 167,o167_7 P)::(nat_lit 168,o168_7 P)::(nat_lit 170,o170_7 P)::(nat_lit 171,o171_7 P)::(nat_lit 173,o173_7 P)::r
def hK_8 (P:Params) (r:List (Addr×Obj)):List (Addr×Obj):=(nat_lit 174,o174_7 P)::(nat_lit 175,o175_7 P)::(nat_lit 177,o177_7 P)::(nat_lit 178,o178_7 P)::(nat_lit 180,o180_7 P)::(nat_lit 181,o181_7 P)::(nat_lit 182,o182_7 P)::(nat_lit 184,o184_7 P)::(nat_lit 185,o185_7 P)::(nat_lit 187,o187_7 P)::(nat_lit 188,o188_7 P)::(nat_lit 189,o189_7 P)::r
def hK_9 (P:Params) (r:List (Addr×Obj)):List (Addr×Obj):=(nat_lit 191,o191_7 P)::(nat_lit 192,o192_7 P)::(nat_lit 194,o194_7 P)::(nat_lit 195,o195_7 P)::(nat_lit 196,o196_7 P)::(nat_lit 198,o198_7 P)::(nat_lit 199,o199_7 P)::(nat_lit 201,o201_7 P)::(nat_lit 202,o202_7 P)::(nat_lit 203,o203_8 P)::(nat_lit 205,o205_8 P)::(nat_lit 206,o206_8 P)::r
def hK_10 (P:Params) (r:List (Addr×Obj)):List (Addr×Obj):=(nat_lit 208,o208_8 P)::(nat_lit 209,o209_8 P)::(nat_lit 210,o210_8 P)::(nat_lit 213,o213_8 P)::(nat_lit 214,o214_8 P)::(nat_lit 215,o215_8 P)::(nat_lit 217,o217_8 P)::(nat_lit 218,o218_8 P)::(nat_lit 220,o220_8 P)::(nat_lit 221,o221_8 P)::(nat_lit 222,o222_8 P)::(nat_lit 224,o224_8 P)::r
def hK_11 (P:Params) (r:List (Addr×Obj)):List (Addr×Obj):=(nat_lit 225,o225_8 P)::(nat_lit 227,o227_8 P)::(nat_lit 228,o228_8 P)::(nat_lit 229,o229_8 P)::(nat_lit 230,o230_8 P)::(nat_lit 231,o231_8 P)::(nat_lit 232,o232_8 P)::(nat_lit 233,o233_8 P)::(nat_lit 234,o234_8 P)::(nat_lit 235,o235_8 P)::(nat_lit 236,o236_8 P)::(nat_lit 237,o237_8 P)::r
def hK_12 (P:Params) (r:List (Addr×Obj)):List (Addr×Obj):=(nat_lit 238,o238_8 P)::(nat_lit 239,o239_8 P)::(nat_lit 240,o240_8 P)::(nat_lit 241,o241_8 P)::(nat_lit 243,o243_8 P)::(nat_lit 244,o244_8 P)::(nat_lit 246,o246_8 P)::(nat_lit 247,o247_8 P)::(nat_lit 248,o248_8 P)::(nat_lit 250,o250_8 P)::(nat_lit 251,o251_8 P)::(nat_lit 253,o253_8 P)::r
def hK_13 (P:Params) (r:List (Addr×Obj)):List (Addr×Obj):=(nat_lit 254,o254_8 P)::(nat_lit 255,o255_8 P)::(nat_lit 257,o257_8 P)::(nat_lit 258,o258_8 P)::(nat_lit 260,o260_8 P)::(nat_lit 261,o261_8 P)::(nat_lit 262,o262_8 P)::(nat_lit 264,o264_8 P)::(nat_lit 265,o265_8 P)::(nat_lit 267,o267_8 P)::(nat_lit 268,o268_8 P)::(nat_lit 269,o269_9 P)::r
def hK_14 (P:Params) (r:List (Addr×Obj)):List (Addr×Obj):=(nat_lit 271,o271_9 P)::(nat_lit 272,o272_9 P)::(nat_lit 274,o274_9 P)::(nat_lit 275,o275_9 P)::(nat_lit 276,o276_9 P)::(nat_lit 278,o278_9 P)::(nat_lit 279,o279_9 P)::(nat_lit 281,o281_9 P)::(nat_lit 282,o282_9 P)::(nat_lit 283,o283_9 P)::(nat_lit 285,o285_9 P)::(nat_lit 286,o286_9 P)::r
def hK_15 (P:Params) (r:List (Addr×Obj)):List (Addr×Obj):=(nat_lit 288,o288_9 P)::(nat_lit 289,o289_9 P)::(nat_lit 290,o290_9 P)::(nat_lit 292,o292_9 P)::(nat_lit 293,o293_9 P)::(nat_lit 295,o295_9 P)::(nat_lit 296,o296_9 P)::(nat_lit 297,o297_9 P)::(nat_lit 299,o299_9 P)::(nat_lit 300,o300_9 P)::(nat_lit 302,o302_9 P)::(nat_lit 303,o303_9 P)::r
def hK_16 (P:Params) (r:List (Addr×Obj)):List (Addr×Obj):=(nat_lit 304,o304_9 P)::(nat_lit 306,o306_9 P)::(nat_lit 307,o307_9 P)::(nat_lit 309,o309_9 P)::(nat_lit 310,o310_9 P)::(nat_lit 311,o311_9 P)::(nat_lit 313,o313_9 P)::(nat_lit 314,o314_9 P)::(nat_lit 316,o316_9 P)::(nat_lit 317,o317_9 P)::(nat_lit 318,o318_9 P)::(nat_lit 320,o320_9 P)::r
def hK_17 (P:Params) (r:List (Addr×Obj)):List (Addr×Obj):=(nat_lit 321,o321_9 P)::(nat_lit 323,o323_9 P)::(nat_lit 324,o324_9 P)::(nat_lit 325,o325_9 P)::(nat_lit 328,o328_9 P)::(nat_lit 329,o329_9 P)::(nat_lit 330,o330_9 P)::(nat_lit 333,o333_9 P)::(nat_lit 334,o334_9 P)::(nat_lit 335,o335_9 P)::(nat_lit 337,o337_9 P)::(nat_lit 338,o338_9 P)::r
def hK_18 (P:Params) (r:List (Addr×Obj)):List (Addr×Obj):=(nat_lit 340,o340_9 P)::(nat_lit 341,o341_9 P)::(nat_lit 342,o342_9 P)::(nat_lit 345,o345_9 P)::(nat_lit 346,o346_9 P)::(nat_lit 347,o347_10 P)::(nat_lit 349,o349_10 P)::(nat_lit 350,o350_10 P)::(nat_lit 352,o352_10 P)::(nat_lit 353,o353_10 P)::(nat_lit 354,o354_10 P)::(nat_lit 356,o356_10 P)::r
def hK_19 (P:Params) (r:List (Addr×Obj)):List (Addr×Obj):=(nat_lit 357,o357_10 P)::(nat_lit 359,o359_10 P)::(nat_lit 360,o360_10 P)::(nat_lit 361,o361_10 P)::(nat_lit 363,o363_10 P)::(nat_lit 364,o364_10 P)::(nat_lit 366,o366_10 P)::(nat_lit 367,o367_10 P)::r
def hK0 (P:Params):List (Addr×Obj):=(hK_0 P (hK_1 P (hK_2 P (hK_3 P (hK_4 P (hK_5 P (hK_6 P (hK_7 P (hK_8 P (hK_9 P (hK_10 P (hK_11 P (hK_12 P (hK_13 P (hK_14 P (hK_15 P (hK_16 P (hK_17 P (hK_18 P (hK_19 P []))))))))))))))))))))
def hK (P:Params):Frag:=(nat_lit 2,PySem.W.boot_o_2 P)::(nat_lit 3,o3_10 P)::(nat_lit 15,o15_1 P)::(nat_lit 17,o17_1 P)::(nat_lit 18,o18_1 P)::(nat_lit 20,o20_1 P)::(nat_lit 21,o21_1 P)::(nat_lit 22,o22_1 P)::(nat_lit 29,o29_1 P)::(nat_lit 31,o31_1 P)::(nat_lit 32,o32_1 P)::(nat_lit 34,o34_1 P)::(nat_lit 35,o35_1 P)::(nat_lit 36,o36_1 P)::(nat_lit 37,o37_1 P)::(nat_lit 38,o38_5 P)::(nat_lit 39,o39_1 P)::(nat_lit 42,o42_2 P)::(nat_lit 49,o49_2 P)::(nat_lit 51,o51_2 P)::(nat_lit 52,o52_2 P)::(nat_lit 54,o54_2 P)::(nat_lit 55,o55_2 P)::(nat_lit 56,o56_2 P)::(nat_lit 57,o57_2 P)::(nat_lit 58,o58_2 P)::(nat_lit 61,o61_3 P)::(nat_lit 68,o68_3 P)::(nat_lit 70,o70_3 P)::(nat_lit 71,o71_3 P)::(nat_lit 73,o73_3 P)::(nat_lit 74,o74_3 P)::(nat_lit 75,o75_3 P)::(nat_lit 76,o76_3 P)::(nat_lit 77,o77_3 P)::(nat_lit 80,o80_4 P)::(nat_lit 87,o87_4 P)::(nat_lit 89,o89_4 P)::(nat_lit 90,o90_4 P)::(nat_lit 92,o92_4 P)::(nat_lit 93,o93_4 P)::(nat_lit 94,o94_4 P)::(nat_lit 95,o95_4 P)::(nat_lit 96,o96_4 P)::(nat_lit 99,o99_5 P)::(nat_lit 106,o106_5 P)::(nat_lit 108,o108_5 P)::(nat_lit 109,o109_5 P)::(nat_lit 111,o111_5 P)::(nat_lit 112,o112_5 P)::(nat_lit 113,o113_5 P)::(nat_lit 114,o114_5 P)::(nat_lit 115,o115_5 P)::(nat_lit 118,o118_6 P)::(nat_lit 119,o119_6 P)::(nat_lit 120,o120_6 P)::(nat_lit 121,o121_6 P)::(nat_lit 122,o122_6 P)::(nat_lit 123,o123_6 P)::(nat_lit 124,o124_6 P)::(nat_lit 125,o125_6 P)::(nat_lit 126,o126_6 P)::(nat_lit 127,o127_6 P)::(nat_lit 128,o128_6 P)::(nat_lit 129,o129_6 P)::(nat_lit 130,o130_6 P)::(nat_lit 131,o131_6 P)::(nat_lit 132,o132_6 P)::(nat_lit 133,o133_6 P)::(nat_lit 134,o134_6 P)::(nat_lit 135,o135_6 P)::(nat_lit 137,o137_6 P)::(nat_lit 138,o138_7 P)::(nat_lit 139,o139_7 P)::(nat_lit 141,o141_7 P)::(nat_lit 142,o142_7 P)::(nat_lit 144,o144_7 P)::(nat_lit 145,o145_7 P)::(nat_lit 146,o146_7 P)::(nat_lit 149,o149_7 P)::(nat_lit 150,o150_7 P)::(nat_lit 151,o151_7 P)::(nat_lit 153,o153_7 P)::(nat_lit 154,o154_7 P)::(nat_lit 156,o156_7 P)::(nat_lit 157,o157_7 P)::(nat_lit 158,o158_7 P)::(nat_lit 161,o161_7 P)::(nat_lit 162,o162_7 P)::(nat_lit 163,o163_7 P)::(nat_lit 166,o166_7 P)::(nat_lit 167,o167_7 P)::(nat_lit 168,o168_7 P)::(nat_lit 170,o170_7 P)::(nat_lit 171,o171_7 P)::(nat_lit 173,o173_7 P)::(nat_lit 174,o174_7 P)::(nat_lit 175,o175_7 P)::(nat_lit 177,o177_7 P)::(nat_lit 178,o178_7 P)::(nat_lit 180,o180_7 P)::(nat_lit 181,o181_7 P)::(nat_lit 182,o182_7 P)::(nat_lit 184,o184_7 P)::(nat_lit 185,o185_7 P)::(nat_lit 187,o187_7 P)::(nat_lit 188,o188_7 P)::(nat_lit 189,o189_7 P)::(nat_lit 191,o191_7 P)::(nat_lit 192,o192_7 P)::(nat_lit 194,o194_7 P)::(nat_lit 195,o195_7 P)::(nat_lit 196,o196_7 P)::(nat_lit 198,o198_7 P)::(nat_lit 199,o199_7 P)::(nat_lit 201,o201_7 P)::(nat_lit 202,o202_7 P)::(nat_lit 203,o203_8 P)::(nat_lit 205,o205_8 P)::(nat_lit 206,o206_8 P)::(nat_lit 208,o208_8 P)::(nat_lit 209,o209_8 P)::(nat_lit 210,o210_8 P)::(nat_lit 213,o213_8 P)::(nat_lit 214,o214_8 P)::(nat_lit 215,o215_8 P)::(nat_lit 217,o217_8 P)::(nat_lit 218,o218_8 P)::(nat_lit 220,o220_8 P)::(nat_lit 221,o221_8 P)::(nat_lit 222,o222_8 P)::(nat_lit 224,o224_8 P)::(nat_lit 225,o225_8 P)::(nat_lit 227,o227_8 P)::(nat_lit 228,o228_8 P)::(nat_lit 229,o229_8 P)::(nat_lit 230,o230_8 P)::(nat_lit 231,o231_8 P)::(nat_lit 232,o232_8 P)::(nat_lit 233,o233_8 P)::(nat_lit 234,o234_8 P)::(nat_lit 235,o235_8 P)::(nat_lit 236,o236_8 P)::(nat_lit 237,o237_8 P)::(nat_lit 238,o238_8 P)::(nat_lit 239,o239_8 P)::(nat_lit 240,o240_8 P)::(nat_lit 241,o241_8 P)::(nat_lit 243,o243_8 P)::(nat_lit 244,o244_8 P)::(nat_lit 246,o246_8 P)::(nat_lit 247,o247_8 P)::(nat_lit 248,o248_8 P)::(nat_lit 250,o250_8 P)::(nat_lit 251,o251_8 P)::(nat_lit 253,o253_8 P)::(nat_lit 254,o254_8 P)::(nat_lit 255,o255_8 P)::(nat_lit 257,o257_8 P)::(nat_lit 258,o258_8 P)::(nat_lit 260,o260_8 P)::(nat_lit 261,o261_8 P)::(nat_lit 262,o262_8 P)::(nat_lit 264,o264_8 P)::(nat_lit 265,o265_8 P)::(nat_lit 267,o267_8 P)::(nat_lit 268,o268_8 P)::(nat_lit 269,o269_9 P)::(nat_lit 271,o271_9 P)::(nat_lit 272,o272_9 P)::(nat_lit 274,o274_9 P)::(nat_lit 275,o275_9 P)::(nat_lit 276,o276_9 P)::(nat_lit 278,o278_9 P)::(nat_lit 279,o279_9 P)::(nat_lit 281,o281_9 P)::(nat_lit 282,o282_9 P)::(nat_lit 283,o283_9 P)::(nat_lit 285,o285_9 P)::(nat_lit 286,o286_9 P)::(nat_lit 288,o288_9 P)::(nat_lit 289,o289_9 P)::(nat_lit 290,o290_9 P)::(nat_lit 292,o292_9 P)::(nat_lit 293,o293_9 P)::(nat_lit 295,o295_9 P)::(nat_lit 296,o296_9 P)::(nat_lit 297,o297_9 P)::(nat_lit 299,o299_9 P)::(nat_lit 300,o300_9 P)::(nat_lit 302,o302_9 P)::(nat_lit 303,o303_9 P)::(nat_lit 304,o304_9 P)::(nat_lit 306,o306_9 P)::(nat_lit 307,o307_9 P)::(nat_lit 309,o309_9 P)::(nat_lit 310,o310_9 P)::(nat_lit 311,o311_9 P)::(nat_lit 313,o313_9 P)::(nat_lit 314,o314_9 P)::(nat_lit 316,o316_9 P)::(nat_lit 317,o317_9 P)::(nat_lit 318,o318_9 P)::(nat_lit 320,o320_9 P)::(nat_lit 321,o321_9 P)::(nat_lit 323,o323_9 P)::(nat_lit 324,o324_9 P)::(nat_lit 325,o325_9 P)::(nat_lit 328,o328_9 P)::(nat_lit 329,o329_9 P)::(nat_lit 330,o330_9 P)::(nat_lit 333,o333_9 P)::(nat_lit 334,o334_9 P)::(nat_lit 335,o335_9 P)::(nat_lit 337,o337_9 P)::(nat_lit 338,o338_9 P)::(nat_lit 340,o340_9 P)::(nat_lit 341,o341_9 P)::(nat_lit 342,o342_9 P)::(nat_lit 345,o345_9 P)::(nat_lit 346,o346_9 P)::(nat_lit 347,o347_10 P)::(nat_lit 349,o349_10 P)::(nat_lit 350,o350_10 P)::(nat_lit 352,o352_10 P)::(nat_lit 353,o353_10 P)::(nat_lit 354,o354_10 P)::(nat_lit 356,o356_10 P)::(nat_lit 357,o357_10 P)::(nat_lit 359,o359_10 P)::(nat_lit 360,o360_10 P)::(nat_lit 361,o361_10 P)::(nat_lit 363,o363_10 P)::(nat_lit 364,o364_10 P)::(nat_lit 366,o366_10 P)::(nat_lit 367,o367_10 P)::[]
def hA:List Addr:=[nat_lit 2,nat_lit 3,nat_lit 15,nat_lit 17,nat_lit 18,nat_lit 20,nat_lit 21,nat_lit 22,nat_lit 29,nat_lit 31,nat_lit 32,nat_lit 34,nat_lit 35,nat_lit 36,nat_lit 37,nat_lit 38,nat_lit 39,nat_lit 42,nat_lit 49,nat_lit 51,nat_lit 52,nat_lit 54,nat_lit 55,nat_lit 56,nat_lit 57,nat_lit 58,nat_lit 61,nat_lit 68,nat_lit 70,nat_lit 71,nat_lit 73,nat_lit 74,nat_lit 75,nat_lit 76,nat_lit 77,nat_lit 80,nat_lit 87,nat_lit 89,nat_lit 90,nat_lit 92,nat_lit 93,nat_lit 94,nat_lit 95,nat_lit 96,nat_lit 99,nat_lit 106,nat_lit 108,nat_lit 109,nat_lit 111,nat_lit 112,nat_lit 113,nat_lit 114,nat_lit 115,nat_lit 118,nat_lit 119,nat_lit 120,nat_lit 121,nat_lit 122,nat_lit 123,nat_lit 124,nat_lit 125,nat_lit 126,nat_lit 127,nat_lit 128,nat_lit 129,nat_lit 130,nat_lit 131,nat_lit 132,nat_lit 133,nat_lit 134,nat_lit 135,nat_lit 137,nat_lit 138,nat_lit 139,nat_lit 141,nat_lit 142,nat_lit 144,nat_lit 145,nat_lit 146,nat_lit 149,nat_lit 150,nat_lit 151,nat_lit 153,nat_lit 154,nat_lit 156,nat_lit 157,nat_lit 158,nat_lit 161,nat_lit 162,nat_lit 163,nat_lit 166,nat_lit 167,nat_lit 168,nat_lit 170,nat_lit 171,nat_lit 173,nat_lit 174,nat_lit 175,nat_lit 177,nat_lit 178,nat_lit 180,nat_lit 181,nat_lit 182,nat_lit 184,nat_lit 185,nat_lit 187,nat_lit 188,nat_lit 189,nat_lit 191,nat_lit 192,nat_lit 194,nat_lit 195,nat_lit 196,nat_lit 198,nat_lit 199,nat_lit 201,nat_lit 202,nat_lit 203,nat_lit 205,nat_lit 206,nat_lit 208,nat_lit 209,nat_lit 210,nat_lit 213,nat_lit 214,nat_lit 215,nat_lit 217,nat_lit 218,nat_lit 220,nat_lit 221,nat_lit 222,nat_lit 224,nat_lit 225,nat_lit 227,nat_lit 228,nat_lit 229,nat_lit 230,nat_lit 231,nat_lit 232,nat_lit 233,nat_lit 234,nat_lit 235,nat_lit 236,nat_lit 237,nat_lit 238,nat_lit 239,nat_lit 240,nat_lit 241,nat_lit 243,nat_lit 244,nat_lit 246,nat_lit 247,nat_lit 248,nat_lit 250,nat_lit 251,nat_lit 253,nat_lit 254,nat_lit 255,nat_lit 257,nat_lit 258,nat_lit 260,nat_lit 261,nat_lit 262,nat_lit 264,nat_lit 265,nat_lit 267,nat_lit 268,nat_lit 269,nat_lit 271,nat_lit 272,nat_lit 274,nat_lit 275,nat_lit 276,nat_lit 278,nat_lit 279,nat_lit 281,nat_lit 282,nat_lit 283,nat_lit 285,nat_lit 286,nat_lit 288,nat_lit 289,nat_lit 290,nat_lit 292,nat_lit 293,nat_lit 295,nat_lit 296,nat_lit 297,nat_lit 299,nat_lit 300,nat_lit 302,nat_lit 303,nat_lit 304,nat_lit 306,nat_lit 307,nat_lit 309,nat_lit 310,nat_lit 311,nat_lit 313,nat_lit 314,nat_lit 316,nat_lit 317,nat_lit 318,nat_lit 320,nat_lit 321,nat_lit 323,nat_lit 324,nat_lit 325,nat_lit 328,nat_lit 329,nat_lit 330,nat_lit 333,nat_lit 334,nat_lit 335,nat_lit 337,nat_lit 338,nat_lit 340,nat_lit 341,nat_lit 342,nat_lit 345,nat_lit 346,nat_lit 347,nat_lit 349,nat_lit 350,nat_lit 352,nat_lit 353,nat_lit 354,nat_lit 356,nat_lit 357,nat_lit 359,nat_lit 360,nat_lit 361,nat_lit 363,nat_lit 364,nat_lit 366,nat_lit 367]
def hX (s:Shared):Bool:=xlAt hq [] s && recOk [] s
def hTs:List Addr:=[nat_lit 216,nat_lit 223]
abbrev hH:Hook:=kmHook hK hA (fun _=>by kernel_rfl) hTs
def qs (w:World):(OsState→(Bool×Nat×Option Value))×(OsState→(Bool×Nat×Option Value)):=(fun os=>((boot_heap w.params).isNs mainGlobals && (Array.mk []:Array GenState).size==0,(boot_heap w.params).objs.size,(boot_heap w.params).nsMap mainGlobals "__annotations__"),fun os=>(true,(nat_lit 11),(some (.ref 6))))
theorem qs_eq:HD.sz (nat_lit 11) (some (.ref 6))=qs:=by kernel_rfl
name_quick YK27s for qs by qs_eq
theorem is (w:World):(Fast.YK27s w).1=(Fast.YK27s w).2:=by kernel_rfl
theorem hs:HD.Ok (HD.sz (nat_lit 11) (some (.ref 6))):=HD.by1 Fast.YK27s_eq is
def qla (w:World):(OsState→Bool)×(OsState→Bool):=(fun os=>(staticsOk (importedModules pw.main.body) (boot_heap w.params) (Hf w.params) && namesBound pw (Hf w.params) && gensDone (Sf w os) && laidKept (boot_heap w.params) (Hf w.params)),fun os=>true)
theorem qla_eq:HD.la pw Hf df kf=qla:=by kernel_rfl
name_quick YK27la for qla by qla_eq
theorem ila (w:World):(Fast.YK27la w).1=(Fast.YK27la w).2:=by kernel_rfl
theorem hla:HD.Ok (HD.la pw Hf df kf):=HD.by1 Fast.YK27la_eq ila
def qlb (w:World):=((fun os:OsState=>openSeen hq hl (importedModules pw.main.body) hX true (Sf w os)),(fun _:OsState=>openGood hq hl))
theorem qlb_eq:HD.lb pw hq hl hX Hf df kf=qlb:=by kernel_rfl
name_quick YK27lb for qlb by qlb_eq
theorem ilb (w:World):(Fast.YK27lb w).1=(Fast.YK27lb w).2:=by kernel_rfl
theorem hlb:HD.Ok (HD.lb pw hq hl hX Hf df kf):=HD.by1 Fast.YK27lb_eq ilb
def qlc (w:World):(OsState→(List (Option Obj)×List (Option Obj)))×(OsState→(List (Option Obj)×List (Option Obj))):=(fun os=>(hA.map (Sf w os).heap.get?,hTs.map (Sf w os).heap.get?),fun os=>((hK0 w.params).map fun p=>some p.2,hTs.map fun _=>some (tabObj #[])))
theorem qlc_eq:HD.lc hH Hf df kf=qlc:=by kernel_rfl
name_quick YK27lc for qlc by qlc_eq
theorem ilc (w:World):(Fast.YK27lc w).1=(Fast.YK27lc w).2:=by kernel_rfl
theorem hlc:HD.Ok (HD.lc hH Hf df kf):=HD.by1 Fast.YK27lc_eq ilc
theorem hleft:LeftO pw hq hl hX hH.obs hH.val 5842:=HD.left (by kernel_rfl) (by decide) (fun s=>by kernel_rfl) hs hrun (by decide +kernel) hla hlb hlc
end K27
end
open PySem PySem.W PyProof.Rows
set_option maxRecDepth 100000 in
set_option maxHeartbeats 0 in
theorem PySem.Challenge.cw_keeper_k27_deep_bodies_holds : PySem.Challenge.rw_keeper_k27_deep_bodies.Holds := by
  w_on; o_law
  refine PySem.W.holds_open (q:=K27.hq) (loose:=K27.hl) (Xt:=K27.hX) (XP:=PySem.W.XL K27.hq []) (Yf:=PySem.W.Hook.obs K27.hH) (Ya:=PySem.W.Hook.val K27.hH) (YP:=PySem.W.Hook.says K27.hH) (N:=5842) K27.hleft (PySem.W.Hook.of _) (PySem.W.Hook.keeps _) (fun s e=>PySem.W.xl_of s (Bool.and_eq_true_iff.mp e).1) PySem.W.XL.keeps (by rfl) (by rfl) (by rfl) (fun s e=>PySem.W.recFacts_of (Bool.and_eq_true_iff.mp e).2) (by rfl) (by assumption) (by decide +kernel) ⟨rfl,rfl,rfl,rfl,rfl,by decide +kernel⟩ ?hw ?hc
  case hw=>w_witness2
  delta K27.hH
  k_fill
  refine' K27.walk (l:=PySem.Challenge.rw_keeper_k27_deep_bodies) (c1:=?qc1) (T1:=?qT1) (c2:=?qc2) (T2:=?qT2) rfl rfl (fun w h Y=>PySem.W.km_in_of Y) ?h2_1 ?h3_1 ?h4_1 ?h2_2 ?h3_2 ?h4_2 ?hne12 ?F
  case F =>
    intro w mg fa h KX G hmg
    have h1_1:PySem.W.tabIn (L2.KOf KX) "raised" = some (?qc1,?qT1):=by
      dsimp only [L2.KOf]
      exact rfl
    have h2_1:PySem.W.codeHdIn (L2.KOf KX) ?qc1 ?qT1=true:=by
      dsimp only [L2.KOf]
      kernel_rfl
    have h1_2:PySem.W.tabIn (L2.KOf KX) "put_in" = some (?qc2,?qT2):=by
      dsimp only [L2.KOf]
      exact rfl
    have h2_2:PySem.W.codeHdIn (L2.KOf KX) ?qc2 ?qT2=true:=by
      dsimp only [L2.KOf]
      kernel_rfl
    have T:∃ t,K27.Txt (L2.KOf KX) mg t:=by
      dsimp only [L2.KOf]
      refine' K27.txt_mk KX G ?a0 ?a1 ?a2 ?a3 ?a4 ?a5 ?a6 ?a7 ?a8 ?a9 ?a10 ?a11 ?a12 ?a13 ?a14 ?a15 ?a16 ?a17 ?a18 ?a19 ?a20 ?a21 ?a22 ?a23 ?a24 ?a25 ?a26 ?a27 ?a28 ?a29 ?a30 ?a31 ?a32 ?z_bool ?z_enumerate ?z_int ?z_isinstance ?z_len ?z_list ?z_max ?z_range ?z_tuple ?z_zip ?g_MOST_KNOTS ?g_MOST_DEEP ?g_MOST_VARIABLE ?g_KIDS_DUE ?lk_KIDS_DUE ?sy_KIDS_DUE ?ks_KIDS_DUE ?rf_KIDS_DUE ?u0_KIDS_DUE ?v0_KIDS_DUE ?u1_KIDS_DUE ?v1_KIDS_DUE ?u2_KIDS_DUE ?v2_KIDS_DUE ?u3_KIDS_DUE ?v3_KIDS_DUE ?u4_KIDS_DUE ?v4_KIDS_DUE ?u5_KIDS_DUE ?v5_KIDS_DUE ?u6_KIDS_DUE ?v6_KIDS_DUE ?u7_KIDS_DUE ?v7_KIDS_DUE ?u8_KIDS_DUE ?v8_KIDS_DUE ?u9_KIDS_DUE ?v9_KIDS_DUE ?u10_KIDS_DUE ?v10_KIDS_DUE ?u11_KIDS_DUE ?v11_KIDS_DUE ?u12_KIDS_DUE ?v12_KIDS_DUE ?u13_KIDS_DUE ?v13_KIDS_DUE ?u14_KIDS_DUE ?v14_KIDS_DUE ?u15_KIDS_DUE ?v15_KIDS_DUE ?u16_KIDS_DUE ?v16_KIDS_DUE ?u17_KIDS_DUE ?v17_KIDS_DUE ?g_BINDER_OVER ?lk_BINDER_OVER ?sy_BINDER_OVER ?vs_BINDER_OVER ?g_RULES ?lk_RULES ?sy_RULES ?ks_RULES ?rf_RULES ?u0_RULES ?v0_RULES ?u0_0_RULES ?v0_0_RULES ?u1_RULES ?v1_RULES ?u1_0_RULES ?v1_0_RULES ?u1_1_RULES ?v1_1_RULES ?u2_RULES ?v2_RULES ?u2_0_RULES ?v2_0_RULES ?u3_RULES ?v3_RULES ?u3_0_RULES ?v3_0_RULES ?u4_RULES ?v4_RULES ?u4_0_RULES ?v4_0_RULES ?g_Great ?g_NoPlace ?g_NoStep ?g_Dry ?x_gr ?x_dr ?x_ns ?x_np ?x_s1 ?x_s2
      (case a0=>apply L3.dfi; iterate 4 k_is)
      (case a1=>apply L3.dfi; iterate 4 k_is)
      (case a2=>apply L3.dfi; iterate 4 k_is)
      (case a3=>apply L3.dfi; iterate 4 k_is)
      (case a4=>apply L3.dfi; iterate 4 k_is)
      (case a5=>apply L3.dfi; iterate 4 k_is)
      (case a6=>apply L3.dfi; iterate 4 k_is)
      (case a7=>apply L3.dfi; iterate 4 k_is)
      (case a8=>apply L3.dfi; iterate 4 k_is)
      (case a9=>apply L3.dfi; iterate 4 k_is)
      (case a10=>apply L3.dfi; iterate 4 k_is)
      (case a11=>apply L3.dfi; iterate 4 k_is)
      (case a12=>apply L3.dfi; iterate 4 k_is)
      (case a13=>apply L3.dfi; iterate 4 k_is)
      (case a14=>apply L3.dfi; iterate 4 k_is)
      (case a15=>apply L3.dfi; iterate 4 k_is)
      (case a16=>apply L3.dfi; iterate 4 k_is)
      (case a17=>apply L3.dfi; iterate 4 k_is)
      (case a18=>apply L3.dfi; iterate 4 k_is)
      (case a19=>apply L3.dfi; iterate 4 k_is)
      (case a20=>apply L3.dfi; iterate 4 k_is)
      (case a21=>apply L3.dfi; iterate 4 k_is)
      (case a22=>apply L3.dfi; iterate 4 k_is)
      (case a23=>apply L3.dfi; iterate 4 k_is)
      (case a24=>apply L3.dfi; iterate 4 k_is)
      (case a25=>apply L3.dfi; iterate 4 k_is)
      (case a26=>apply L3.dfi; iterate 4 k_is)
      (case a27=>apply L3.dfi; iterate 4 k_is)
      (case a28=>apply L3.dfi; iterate 4 k_is)
      (case a29=>apply L3.dfi; iterate 4 k_is)
      (case a30=>apply L3.dfi; iterate 4 k_is)
      (case a31=>apply L3.dfi; iterate 4 k_is)
      (case a32=>apply L3.dfi; iterate 4 k_is)
      (case z_bool=>k_is)
      (case z_enumerate=>k_is)
      (case z_int=>k_is)
      (case z_isinstance=>k_is)
      (case z_len=>k_is)
      (case z_list=>k_is)
      (case z_max=>k_is)
      (case z_range=>k_is)
      (case z_tuple=>k_is)
      (case z_zip=>k_is)
      (case g_MOST_KNOTS=>k_is)
      (case g_MOST_DEEP=>k_is)
      (case g_MOST_VARIABLE=>k_is)
      (case g_KIDS_DUE=>k_is)
      (case lk_KIDS_DUE=>k_is)
      (case sy_KIDS_DUE=>decide +kernel)
      (case ks_KIDS_DUE=>kernel_rfl)
      (case rf_KIDS_DUE=>rfl)
      (case u0_KIDS_DUE=>k_is)
      (case v0_KIDS_DUE=>decide +kernel)
      (case u1_KIDS_DUE=>k_is)
      (case v1_KIDS_DUE=>decide +kernel)
      (case u2_KIDS_DUE=>k_is)
      (case v2_KIDS_DUE=>decide +kernel)
      (case u3_KIDS_DUE=>k_is)
      (case v3_KIDS_DUE=>decide +kernel)
      (case u4_KIDS_DUE=>k_is)
      (case v4_KIDS_DUE=>decide +kernel)
      (case u5_KIDS_DUE=>k_is)
      (case v5_KIDS_DUE=>decide +kernel)
      (case u6_KIDS_DUE=>k_is)
      (case v6_KIDS_DUE=>decide +kernel)
      (case u7_KIDS_DUE=>k_is)
      (case v7_KIDS_DUE=>decide +kernel)
      (case u8_KIDS_DUE=>k_is)
      (case v8_KIDS_DUE=>decide +kernel)
      (case u9_KIDS_DUE=>k_is)
      (case v9_KIDS_DUE=>decide +kernel)
      (case u10_KIDS_DUE=>k_is)
      (case v10_KIDS_DUE=>decide +kernel)
      (case u11_KIDS_DUE=>k_is)
      (case v11_KIDS_DUE=>decide +kernel)
      (case u12_KIDS_DUE=>k_is)
      (case v12_KIDS_DUE=>decide +kernel)
      (case u13_KIDS_DUE=>k_is)
      (case v13_KIDS_DUE=>decide +kernel)
      (case u14_KIDS_DUE=>k_is)
      (case v14_KIDS_DUE=>decide +kernel)
      (case u15_KIDS_DUE=>k_is)
      (case v15_KIDS_DUE=>decide +kernel)
      (case u16_KIDS_DUE=>k_is)
      (case v16_KIDS_DUE=>decide +kernel)
      (case u17_KIDS_DUE=>k_is)
      (case v17_KIDS_DUE=>decide +kernel)
      (case g_BINDER_OVER=>k_is)
      (case lk_BINDER_OVER=>k_is)
      (case sy_BINDER_OVER=>decide +kernel)
      (case vs_BINDER_OVER=>kernel_rfl)
      (case g_RULES=>k_is)
      (case lk_RULES=>k_is)
      (case sy_RULES=>decide +kernel)
      (case ks_RULES=>kernel_rfl)
      (case rf_RULES=>rfl)
      (case u0_RULES=>k_is)
      (case v0_RULES=>rfl)
      (case u0_0_RULES=>k_is)
      (case v0_0_RULES=>decide +kernel)
      (case u1_RULES=>k_is)
      (case v1_RULES=>rfl)
      (case u1_0_RULES=>k_is)
      (case v1_0_RULES=>decide +kernel)
      (case u1_1_RULES=>k_is)
      (case v1_1_RULES=>decide +kernel)
      (case u2_RULES=>k_is)
      (case v2_RULES=>rfl)
      (case u2_0_RULES=>k_is)
      (case v2_0_RULES=>decide +kernel)
      (case u3_RULES=>k_is)
      (case v3_RULES=>rfl)
      (case u3_0_RULES=>k_is)
      (case v3_0_RULES=>decide +kernel)
      (case u4_RULES=>k_is)
      (case v4_RULES=>rfl)
      (case u4_0_RULES=>k_is)
      (case v4_0_RULES=>decide +kernel)
      (case g_Great=>k_is)
      (case g_NoPlace=>k_is)
      (case g_NoStep=>k_is)
      (case g_Dry=>k_is)
      (case x_gr=>kernel_rfl)
      (case x_dr=>kernel_rfl)
      (case x_ns=>kernel_rfl)
      (case x_np=>kernel_rfl)
      (case x_s1=>k_is)
      (case x_s2=>k_is)
    obtain ⟨t,T⟩:=T
    exact K27.fin KX G h1_1 h2_1 h1_2 h2_2 T hmg
  case h2_1=>intro w; kernel_rfl
  case h3_1=>intro w; kernel_rfl
  case h4_1=>exact fun w h Y=>PySem.W.km_tabs_of Y _ (by decide)
  case h2_2=>intro w; kernel_rfl
  case h3_2=>intro w; kernel_rfl
  case h4_2=>exact fun w h Y=>PySem.W.km_tabs_of Y _ (by decide)
  case hne12=>decide
