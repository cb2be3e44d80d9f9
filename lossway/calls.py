"""The calls that a user makes at a station."""

CALLS = (
    "listen", "unlisten", "connect", "accept", "write", "urge", "read", "close", "abort", "resize", "forget", "crash",
    "start",
)
# How many values those calls take that do not take one.
VALUES = {"write": 2, "urge": 2, "read": 2, "resize": 2, "crash": 0, "start": 0}
OPTIONS = {"listen": ("backlog",), "connect": ("source", "first")}


def is_call(name, values, options):
    """True if stations have a call of this name that takes so many values, and options of these names."""
    if not isinstance(name, str) or name not in CALLS:
        return False
    allowed = OPTIONS.get(name, ())
    return len(values) == VALUES.get(name, 1) and all([option in allowed for option in options])


def call_station(station, name, values, options):
    """Make an allowed call at a station and return its result."""
    # A range has a `start` of its own, and a method of such a name may only be called where it stands.
    if name == "start":
        return station.start()
    methods = {
        "listen": station.listen, "unlisten": station.unlisten, "connect": station.connect, "accept": station.accept,
        "write": station.write, "urge": station.urge, "read": station.read, "close": station.close,
        "abort": station.abort, "resize": station.resize, "forget": station.forget, "crash": station.crash,
    }
    method = methods[name]
    if name in OPTIONS:
        port = values[0]
        return method(port, **options)
    return method(*values)
