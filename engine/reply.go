package engine

import (
	"waywiser/api"
	"waywiser/json"
)

// maxReply is how many bytes a reply has at most.
const maxReply = 1 << 20

// refusal is the reply that tells an error.
func refusal(e api.Errno) []byte {
	reply, _ := json.Print(json.Object{{Name: "error", Value: whole(int(e))}})
	return reply
}

// reply is the one that tells, beside that all is well, some more.
func reply(beside json.Object) []byte {
	text := must(json.Print(append(json.Object{{Name: "ok", Value: true}}, beside...)))
	if len(text) > maxReply {
		check(api.ErrLong)
	}
	return text
}

// beside is one thing that is told.
func beside(name string, value any) json.Object { return json.Object{{Name: name, Value: value}} }

// whole is a whole number as a value.
func whole(n int) json.Num { return json.Num(n * api.Scale) }

// listed is a list of what each of some is as a value.
func listed[T any](l []T, value func(x T) any) json.List {
	out := json.List{}
	for _, x := range l {
		out = append(out, value(x))
	}
	return out
}

// text is one as a value.
func text(s string) any { return s }
