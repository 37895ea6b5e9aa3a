"""A room of many readers or one writer, served in turn."""
