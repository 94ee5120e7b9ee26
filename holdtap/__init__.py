"""holdtap: the program inside a keyboard."""
