package faces

import (
	"slices"

	"phalanx/apply"
	"phalanx/ballot"
	"phalanx/client"
	"phalanx/cmd"
	"phalanx/crc"
	"phalanx/dict"
	"phalanx/frame"
	"phalanx/gate"
	"phalanx/ident"
	"phalanx/link"
	"phalanx/load"
	"phalanx/lock"
	"phalanx/log"
	"phalanx/meter"
	"phalanx/node"
	"phalanx/note"
	"phalanx/num"
	"phalanx/post"
	"phalanx/queue"
	"phalanx/script"
	"phalanx/session"
	"phalanx/snap"
	"phalanx/store"
	"phalanx/value"
	"phalanx/view"
	"phalanx/watch"
	"phalanx/wire"
	"phalanx/world"
)

// listed is a call that a chapter lists, with its form there.
type listed struct {
	name string
	call any
	form string
}

// calls lists them all, in the order of the layers.
func calls() []listed {
	return slices.Concat(bytesCalls(), objectCalls(), memberCalls(), machineCalls())
}

// bytesCalls: layers 1 to 8: bytes, values, messages.
func bytesCalls() []listed {
	return []listed{
		{"crc.More", crc.More, "func(uint32, string) uint32"},
		{"crc.Sum", crc.Sum, "func(string) uint32"},
		{"crc.Text", crc.Text, "func(uint32) string"},
		{"crc.Read", crc.Read, "func(string) (uint32, bool)"},
		{"num.Make", num.Make, "func(uint64) uint64"},
		{"num.Cmp", num.Cmp, "func(uint64, uint64) int"},
		{"num.Add", num.Add, "func(uint64, uint64) uint64"},
		{"num.Least", num.Least, "func(uint64, uint64) uint64"},
		{"num.Most", num.Most, "func(uint64, uint64) uint64"},
		{"num.Of", num.Of, "func(int) uint64"},
		{"num.Text", num.Text, "func(uint64) string"},
		{"num.Read", num.Read, "func(string) (uint64, api.Errno)"},
		{"wire.Encode", wire.Encode, "func([]api.Item) (string, api.Errno)"},
		{"wire.Decode", wire.Decode, "func(string) ([]api.Item, api.Errno)"},
		{"value.Check", value.Check, "func(api.Value) api.Errno"},
		{"value.Cmp", value.Cmp, "func(api.Value, api.Value) int"},
		{"value.Items", value.Items, "func(api.Value) []api.Item"},
		{"value.From", value.From, "func([]api.Item, int) (api.Value, int, bool)"},
		{"value.Text", value.Text, "func(api.Value) string"},
		{"value.Read", value.Read, "func(string) (api.Value, api.Errno)"},
		{"frame.Put", frame.Put, "func(int, string) (string, api.Errno)"},
		{"frame.Get", frame.Get, "func(string) (int, string, api.Errno)"},
		{"ident.Right", ident.Right, "func(api.Id) bool"},
		{"ident.Rises", ident.Rises, "func([]api.Id) bool"},
		{"ident.Has", ident.Has, "func([]api.Id, api.Id) bool"},
		{"ident.Slot", ident.Slot, "func([]api.Id, int) (api.Id, bool)"},
		{"ident.Both", ident.Both, "func([]api.Id, []api.Id) []api.Id"},
		{"ident.With", ident.With, "func([]api.Id, api.Id) []api.Id"},
		{"ident.Most", ident.Most, "func(int) int"},
		{"ident.Major", ident.Major, "func([]api.Id, []api.Id) bool"},
		{"ident.Items", ident.Items, "func([]api.Id) []api.Item"},
		{"ident.From", ident.From, "func([]api.Item, int) ([]api.Id, int, bool)"},
		{"post.Send", post.Send, "func(api.Post, api.Mail) (api.Post, api.Errno)"},
		{"post.Take", post.Take, "func(api.Post, int) (api.Post, api.Mail, bool, api.Errno)"},
		{"post.Lose", post.Lose, "func(api.Post, int) (api.Post, api.Errno)"},
		{"post.Twice", post.Twice, "func(api.Post, int) (api.Post, api.Errno)"},
		{"post.Spoil", post.Spoil, "func(api.Post, int, int, uint8) (api.Post, api.Errno)"},
		{"post.Move", post.Move, "func(api.Post, int, int) (api.Post, api.Errno)"},
		{"link.New", link.New, "func(api.Id, int) api.Link"},
		{"link.Send", link.Send, "func(api.Link, string, int) (api.Link, api.Packet, api.Errno)"},
		{"link.Tick", link.Tick, "func(api.Link, int) (api.Link, []api.Packet)"},
		{"link.Meet", link.Meet, "func(api.Link, int) api.Link"},
		{"link.Take", link.Take, "func(api.Link, api.Packet) (api.Link, string, bool, api.Packet, bool)"},
		{"link.Items", link.Items, "func(api.Packet) []api.Item"},
		{"link.From", link.From, "func([]api.Item) (api.Packet, bool)"},
	}
}

// objectCalls: layers 9 to 18: commands, objects, states.
func objectCalls() []listed {
	return []listed{
		{"cmd.Check", cmd.Check, "func(api.Cmd) api.Errno"},
		{"cmd.Right", cmd.Right, "func(api.Ref) bool"},
		{"cmd.Fits", cmd.Fits, "func(api.Event) bool"},
		{"cmd.Items", cmd.Items, "func(api.Event) []api.Item"},
		{"cmd.From", cmd.From, "func([]api.Item, int) (api.Event, int, bool)"},
		{"cmd.List", cmd.List, "func([]api.Event) []api.Item"},
		{"cmd.Events", cmd.Events, "func([]api.Item, int) ([]api.Event, int, bool)"},
		{"dict.Right", dict.Right, "func([]api.Pair) bool"},
		{"dict.Get", dict.Get, "func([]api.Pair, string) (api.Value, api.Errno)"},
		{"dict.Put", dict.Put, "func([]api.Pair, string, api.Value) ([]api.Pair, api.Errno)"},
		{"dict.Cut", dict.Cut, "func([]api.Pair, string) ([]api.Pair, api.Value, api.Errno)"},
		{"dict.Swap", dict.Swap, "func([]api.Pair, string, api.Value, api.Value) ([]api.Pair, api.Value, api.Errno)"},
		{"queue.Right", queue.Right, "func(int, []api.Value) bool"},
		{"queue.Push", queue.Push, "func(int, []api.Value, api.Value) ([]api.Value, api.Errno)"},
		{"queue.Pop", queue.Pop, "func(int, []api.Value) ([]api.Value, api.Value, api.Errno)"},
		{"lock.Right", lock.Right, "func([]api.Ref) bool"},
		{"lock.Take", lock.Take, "func([]api.Ref, api.Ref) ([]api.Ref, bool, api.Errno)"},
		{"lock.Free", lock.Free, "func([]api.Ref, api.Ref) ([]api.Ref, api.Ref, bool, api.Errno)"},
		{"lock.Drop", lock.Drop, "func([]api.Ref, api.Ref) ([]api.Ref, api.Ref, bool)"},
		{"gate.Right", gate.Right, "func(int, []api.Ref) bool"},
		{"gate.Wait", gate.Wait, "func(int, []api.Ref, api.Ref) ([]api.Ref, []api.Ref, api.Errno)"},
		{"gate.Drop", gate.Drop, "func(int, []api.Ref, api.Ref) []api.Ref"},
		{"meter.Right", meter.Right, "func(api.Meter) bool"},
		{"meter.Add", meter.Add, "func(api.Meter, uint64) (api.Meter, api.Errno)"},
		{"meter.Read", meter.Read, "func(api.Meter, int) (api.Value, api.Errno)"},
		{"store.Right", store.Right, "func([]api.Object) bool"},
		{"store.Do", store.Do, "func([]api.Object, api.Ref, api.Cmd) ([]api.Object, api.Reply, bool, []api.Out)"},
		{"store.Drop", store.Drop, "func([]api.Object, api.Ref) ([]api.Object, []api.Out)"},
		{"store.Reply", store.Reply, "func(api.Reply) bool"},
		{"session.Right", session.Right, "func([5]api.Session) bool"},
		{"session.Look", session.Look, "func([5]api.Session, api.Ref) int"},
		{"session.Open", session.Open, "func([5]api.Session, api.Ref) ([5]api.Session, api.Reply)"},
		{"session.Begin", session.Begin, "func([5]api.Session, api.Ref) [5]api.Session"},
		{"session.End", session.End, "func([5]api.Session, api.Ref, api.Reply) [5]api.Session"},
		{"session.Close", session.Close, "func([5]api.Session, int) [5]api.Session"},
		{"apply.Right", apply.Right, "func(api.State) bool"},
		{"apply.Apply", apply.Apply, "func(api.State, api.Event) (api.State, []api.Out)"},
		{"snap.Encode", snap.Encode, "func(api.State) (string, api.Errno)"},
		{"snap.Decode", snap.Decode, "func(string) (api.State, api.Errno)"},
	}
}

// memberCalls: layers 19 to 24: what members agree on and tell one another.
func memberCalls() []listed {
	return []listed{
		{"load.Count", load.Count, "func(string) int"},
		{"load.Cut", load.Cut, "func(int, string, int) (api.Piece, api.Errno)"},
		{"load.Right", load.Right, "func(api.Piece) bool"},
		{"load.New", load.New, "func(int) api.Load"},
		{"load.Take", load.Take, "func(api.Load, api.Piece) (api.Load, api.Errno)"},
		{"load.Missing", load.Missing, "func(api.Load) int"},
		{"load.Whole", load.Whole, "func(api.Load) (string, api.Errno)"},
		{"ballot.Cmp", ballot.Cmp, "func(api.Ballot, api.Ballot) int"},
		{"ballot.Right", ballot.Right, "func(api.Ballot) bool"},
		{"ballot.Prepare", ballot.Prepare, "func(api.Vote, api.Ballot) (api.Vote, bool)"},
		{"ballot.Accept", ballot.Accept, "func(api.Vote, api.Ballot, string) (api.Vote, bool)"},
		{"ballot.Choose", ballot.Choose, "func([]api.Promise) (string, bool)"},
		{"log.End", log.End, "func(api.Log) int"},
		{"log.Right", log.Right, "func(api.Log) bool"},
		{"log.Has", log.Has, "func(api.Log, api.Event) bool"},
		{"log.Add", log.Add, "func(api.Log, int, []api.Event, int) api.Log"},
		{"log.Stay", log.Stay, "func(api.Log, int) api.Log"},
		{"log.Take", log.Take, "func(api.Log) (api.Log, api.Event, bool)"},
		{"log.Trim", log.Trim, "func(api.Log, int) api.Log"},
		{"log.Part", log.Part, "func(api.Log, int, int) (int, []api.Event)"},
		{"log.Agreed", log.Agreed, "func([]int) int"},
		{"log.All", log.All, "func([]int) int"},
		{"watch.Right", watch.Right, "func(api.Beat) bool"},
		{"watch.Hear", watch.Hear, "func([7]api.Peer, api.Beat, int) ([7]api.Peer, bool)"},
		{"watch.Late", watch.Late, "func([7]api.Peer, api.Id, int, int, int) bool"},
		{"watch.Items", watch.Items, "func(api.Beat) []api.Item"},
		{"watch.From", watch.From, "func([]api.Item) (api.Beat, bool)"},
		{"view.First", view.First, "func(int) api.View"},
		{"view.Right", view.Right, "func(api.View) bool"},
		{"view.Leader", view.Leader, "func(api.View) (api.Id, bool)"},
		{"view.Follow", view.Follow, "func(api.View, []api.Id, []api.Id, []api.Id) (api.View, api.Errno)"},
		{"view.Fits", view.Fits, "func(api.Next) bool"},
		{"view.Text", view.Text, "func(api.Next) (string, api.Errno)"},
		{"view.Read", view.Read, "func(string) (api.Next, bool)"},
		{"note.Right", note.Right, "func(api.Note) bool"},
		{"note.Text", note.Text, "func(api.Note) (string, api.Errno)"},
		{"note.Read", note.Read, "func(string) (api.Note, bool)"},
		{"note.Fits", note.Fits, "func(api.Answer) bool"},
		{"note.Tell", note.Tell, "func(api.Answer) (string, api.Errno)"},
		{"note.Told", note.Told, "func(string) (api.Answer, bool)"},
	}
}

// machineCalls: layers 25 to 28: nodes, clients, worlds, scripts.
func machineCalls() []listed {
	return []listed{
		{"node.Right", node.Right, "func(api.Setting) bool"},
		{"node.New", node.New, "func(api.Setting, api.Id, bool) (*node.Node, api.Errno)"},
		{"(*node.Node).Tick", (*node.Node).Tick, "func(*node.Node) []api.Mail"},
		{"(*node.Node).Receive", (*node.Node).Receive, "func(*node.Node, api.Mail) []api.Mail"},
		{"(*node.Node).See", (*node.Node).See, "func(*node.Node) api.Sight"},
		{"client.New", client.New, "func(api.Setting, int) (*client.Client, api.Errno)"},
		{"(*client.Client).Invoke", (*client.Client).Invoke, "func(*client.Client, api.Cmd) ([]api.Mail, api.Errno)"},
		{"(*client.Client).Tick", (*client.Client).Tick, "func(*client.Client) []api.Mail"},
		{"(*client.Client).Receive", (*client.Client).Receive, "func(*client.Client, api.Mail) ([]api.Mail, api.Reply, bool)"},
		{"(*client.Client).See", (*client.Client).See, "func(*client.Client) (api.Event, bool, int)"},
		{"world.New", world.New, "func(api.Setting) (*world.World, api.Errno)"},
		{"(*world.World).Do", (*world.World).Do, "func(*world.World, api.Act) api.Errno"},
		{"(*world.World).See", (*world.World).See, "func(*world.World, int) (api.Sight, api.Errno)"},
		{"(*world.World).Client", (*world.World).Client, "func(*world.World, int) (api.Event, bool, int, api.Errno)"},
		{"(*world.World).Way", (*world.World).Way, "func(*world.World) api.Post"},
		{"(*world.World).All", (*world.World).All, "func(*world.World) []api.Call"},
		{"script.Right", script.Right, "func(api.Act) bool"},
		{"script.Print", script.Print, "func(api.Act) (string, api.Errno)"},
		{"script.Read", script.Read, "func(string) (api.Act, api.Errno)"},
		{"script.Run", script.Run, "func(string) string"},
	}
}
